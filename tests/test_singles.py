from itertools import product

from drawn import lot
from gridwright.dividing import powers
from gridwright.errors import InvalidNumber, NotAPoly, NotMonic, NotRests, Nought, TooMany
from gridwright.grids import Grid, one_grid
from gridwright.polys import Poly
from gridwright.ratios import Ratio
from gridwright.rests import Rest
from gridwright.singles import count_singles, is_single, keeping_grid, number_of_singles, roots_of, singles
from gridwright.stairs import rank
from samples import is_part, monic_by, monic_singles, polys_by, total_product
from support import SPOILT, Told
from test_dividing import NO_POLYS
from test_stairs import NO_PRIMES

CALLS = (singles, count_singles, is_single, keeping_grid, roots_of)
PRIMES = [prime for prime in range(2, 100) if all(prime % k for k in range(2, prime))]


def key(single):
    return single.degree, tuple(rest.number for rest in single.coefficients)


def plain_singles(poly, known):
    """The pairs by trying all known monic singles."""
    found, left = [], poly
    for single in known:
        many = 0
        while left.degree >= single.degree and is_part(single, left):
            left, many = left // single, many + 1
        if many:
            found.append((single, many))
    return tuple(sorted(found, key=lambda pair: key(pair[0])))


def some_singles(prime, source):
    """Some monic singles of the degrees 1 to 3 by a prime: those of the degrees 2 and 3 are told by having no roots."""
    kind = f"rest {prime}"
    found = [Poly(kind, (number, 1)) for number in range(min(prime, 4))]
    while len(found) < min(prime, 4) + 3:
        poly = Poly(kind, tuple(source.randrange(prime) for _ in range(source.choice((2, 3)))) + (1,))
        if all(poly.at(number) for number in range(prime)) and poly not in found:
            found.append(poly)
    return found


class Parts(Told):
    def test_by_trying_all_singles(self):
        for prime, most in ((2, 6), (3, 4), (5, 2)):
            known = monic_singles(prime, most)
            for poly in monic_by(prime, most):
                expected = plain_singles(poly, known)
                for number in range(1, min(prime, 3)):
                    self.tells(expected, singles, poly=poly * number)
                    self.tells(len(expected), count_singles, poly=poly * number)
                    self.tells(len(expected) == 1 and expected[0][1] == 1, is_single, poly=poly * number)
                self.assertIs(type(is_single(poly)), bool)

    def test_products_of_drawn_singles(self):
        for prime in (2, 3, 5, 7, 31, 97):
            source = lot(f"drawn singles {prime}")
            known = some_singles(prime, source)
            for _ in range(6):
                told, degree = {}, 0
                while True:
                    place = source.randrange(len(known))
                    degree += known[place].degree
                    if degree > 24:
                        break
                    told[place] = told.get(place, 0) + 1
                poly = total_product([known[place] ** many for place, many in told.items()], f"rest {prime}")
                expected = sorted([(known[place], many) for place, many in told.items()], key=lambda pair: key(pair[0]))
                self.same(singles(poly * (prime - 1)), tuple(expected))

    def test_ascending_and_monic(self):
        for prime in PRIMES:
            source = lot(f"ascending {prime}")
            poly = Poly(f"rest {prime}", tuple(source.randrange(prime) for _ in range(16)) + (1,))
            found = singles(poly)
            keys = [key(single) for single, _ in found]
            self.same([keys, len(set(keys))], [sorted(keys), len(keys)])
            self.same(total_product([single ** many for single, many in found], poly.kind), poly)
            for single, _ in found:
                self.same([single.lead.number, is_single(single), singles(single)], [1, True, ((single, 1),)])
            self.same(count_singles(poly), len(found))

    def test_the_edges(self):
        for prime in (2, 97):
            kind = f"rest {prime}"
            x = Poly(kind, (0, 1))
            self.tells((), singles, poly=Poly(kind, (1,)))
            self.tells(0, count_singles, poly=Poly(kind, (prime - 1,)))
            self.tells(False, is_single, poly=Poly(kind, (1,)))
            self.tells(((x, 24),), singles, poly=x ** 24)
            self.tells(False, is_single, poly=x ** 2)
            self.tells(True, is_single, poly=x * (prime - 1))
            for call in (singles, count_singles, is_single):
                self.refuses(TooMany(25), call, poly=x ** 25)
        # All singles of degree 1, as often as there is room.
        poly = Poly("rest 23", (0,) * 1 + (-1,) + (0,) * 21 + (1,))
        self.same(singles(poly), tuple((Poly("rest 23", (number, 1)), 1) for number in range(23)))
        poly = total_product([Poly("rest 97", (number, 1)) for number in range(24)], "rest 97")
        self.same(singles(poly), tuple((Poly("rest 97", (number, 1)), 1) for number in range(24)))

    def test_squares_of_parts_by_powers_of_the_prime(self):
        for prime in (2, 3, 5):
            kind = f"rest {prime}"
            one, other = Poly(kind, (1, 1)), monic_singles(prime, 2)[-1]
            for many, times in product((1, prime, prime + 1, prime * prime), (1, 2, prime)):
                if many + 2 * times <= 24:
                    self.same(singles(one ** many * other ** times), ((one, many), (other, times)))
                    self.same({part.text: k for part, k in powers(one ** many * other ** times)},
                              {one.text: many, other.text: times} if many != times else {(one * other).text: many})


class KeepingGrids(Told):
    def test_rows_by_the_words_of_the_document(self):
        for prime in (2, 3, 5, 97):
            source = lot(f"keeping {prime}")
            for degree in range(1, 9):
                kind = f"rest {prime}"
                poly = Poly(kind, tuple(source.randrange(prime) for _ in range(degree)) + (1,))
                rows = []
                power = Poly(kind, (1,)) % poly
                for exponent in range(prime * (degree - 1) + 1):
                    if exponent % prime == 0:
                        row = list(power.coefficients) + [Rest(0, prime)] * degree
                        rows.append(tuple(row[:degree]))
                    power = power * Poly(kind, (0, 1)) % poly
                self.tells(Grid(tuple(rows)), keeping_grid, poly=poly)

    def test_its_rank_tells_the_number_of_singles(self):
        for prime, most in ((2, 6), (3, 4), (7, 2)):
            for poly in monic_by(prime, most):
                if poly.degree > 0 and all(many == 1 for _, many in powers(poly)):
                    kept = keeping_grid(poly)
                    self.same(rank(kept - one_grid(kept.kind, poly.degree)), poly.degree - count_singles(poly))

    def test_as_many_polys_are_kept_as_the_power_of_the_number(self):
        for poly in monic_by(3, 3):
            if poly.degree > 0 and all(many == 1 for _, many in powers(poly)):
                kept = [h for h in polys_by(3, poly.degree) if not (h ** 3 - h) % poly]
                self.same(len(kept), 3 ** count_singles(poly))

    def test_refusals(self):
        for kind in ("rest 2", "rest 97"):
            x = Poly(kind, (0, 1))
            self.refuses(NotMonic(x ** 0), keeping_grid, poly=x ** 0)
            self.refuses(TooMany(9), keeping_grid, poly=x ** 9)
            self.same(keeping_grid(x ** 8).shape, (8, 8))
        for poly in (Poly("rest 3", (1, 2)), Poly("rest 3", (2,)), Poly("rest 97", (0, 1)) ** 9 * 3):
            self.refuses(NotMonic(poly), keeping_grid, poly=poly)


class Counted(Told):
    def test_all_singles_of_small_degrees(self):
        for prime, most in ((2, 6), (3, 4), (5, 3)):
            known = monic_singles(prime, most)
            for degree in range(1, most + 1):
                many = len([single for single in known if single.degree == degree])
                self.tells(many, number_of_singles, prime=prime, degree=degree)

    def test_the_sum_over_all_divisors(self):
        for prime, degree in product(PRIMES, range(1, 25)):
            total = sum(d * number_of_singles(prime, d) for d in range(1, degree + 1) if degree % d == 0)
            self.same(total, prime ** degree)

    def test_refusals(self):
        for value in NO_PRIMES:
            self.refuses(InvalidNumber(value), number_of_singles, prime=value, degree=1)
            self.refuses(InvalidNumber(value), number_of_singles, prime=value, degree=-7)
        for value in [*SPOILT, 0, -1, 25, 10 ** 40, Ratio(1), Rest(1, 3)]:
            self.refuses(InvalidNumber(value), number_of_singles, prime=2, degree=value)


class Roots(Told):
    def test_all_rests_at_which_it_is_nought(self):
        for prime, size in ((2, 4), (3, 3), (5, 2)):
            for poly in polys_by(prime, size):
                if poly:
                    expected = tuple(k for k in range(prime) if not sum(
                        c.number * k ** i for i, c in enumerate(poly.coefficients)) % prime)
                    self.tells(expected, roots_of, poly=poly)

    def test_of_any_degree(self):
        for prime in PRIMES:
            kind = f"rest {prime}"
            self.tells(tuple(range(prime)), roots_of, poly=Poly(kind, (0, -1) + (0,) * (prime - 2) + (1,)))
            self.tells((), roots_of, poly=Poly(kind, (1,)))
            self.tells((prime - 1,), roots_of, poly=Poly(kind, (1, 1)) ** 40)


class Refusals(Told):
    def test_in_their_order(self):
        for call in CALLS:
            for value in NO_POLYS:
                self.refuses(NotAPoly(value), call, poly=value)
            for kind in ("whole", "ratio", "rest 101", "rest 999983"):
                self.refuses(NotRests(kind), call, poly=Poly(kind, ()))
                self.refuses(NotRests(kind), call, poly=Poly(kind, (0,) * 25 + (1,)))
            for kind in ("rest 2", "rest 97"):
                self.refuses(Nought(), call, poly=Poly(kind, ()))
