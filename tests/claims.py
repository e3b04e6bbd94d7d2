"""What claims say, told by functions other than the checker's, and claims and papers near to given ones."""

from drawn import plain_det, plain_rank
from gridwright.columns import Column
from gridwright.cores import core_grid
from gridwright.dividing import common
from gridwright.errors import NoAnswer, WrongValue
from gridwright.followers import block_form
from gridwright.grids import Grid
from gridwright.kinds import is_field, number_or_none, read_number
from gridwright.lattices import member_by, same_lattice
from gridwright.leaning import mate, nearest
from gridwright.looks import Looks, quarrel, sure
from gridwright.polys import Poly
from gridwright.restsolving import first_rest_solution
from gridwright.rounds import least_poly
from gridwright.runs import is_rule, reach
from gridwright.scalars import modulus_of
from gridwright.sides import is_turning
from gridwright.similar import is_alike
from gridwright.singles import is_single
from gridwright.solving import solution
from gridwright.spans import base_of
from gridwright.stairs import stair_form
from gridwright.wholesolving import whole_solution
from gridwright.wholestairs import whole_stair

LENGTHS = {
    "turning": 2, "not turning": 2, "rank": 3, "stairs": 3, "whole stairs": 3, "cores": 3, "blocks": 3, "alike": 3, "not alike": 3, "least": 3,
    "solved": 3, "barred": 3, "member": 3, "no member": 3, "rows": 3, "determinant": 3, "common": 4, "parted": 2, "single": 2, "least rule": 4,
    "nearest": 4, "mate": 3, "sure": 4, "open": 3, "quarrel": 2,
}


def whole_field_or_rests(kind):
    return kind == "whole" or is_field(kind) or modulus_of(kind) is not None


def solvable(grid, column):
    """Whether an equation has a solution; None where the functions do not tell."""
    if grid.kind == "whole":
        return whole_solution(grid, column) is not None
    if is_field(grid.kind):
        return solution(grid, column) is not None
    return first_rest_solution(grid, column) is not None if modulus_of(grid.kind) else None


def of_grids(word, claim):
    grid = Grid.read(claim[1])
    if word in ("turning", "not turning"):
        return grid.is_square and is_turning(grid) == (word == "turning") and (word == "turning" or whole_field_or_rests(grid.kind))
    if word == "rank":
        return is_field(grid.kind) and type(claim[2]) is int and plain_rank(grid) == claim[2]
    if word == "determinant":
        return is_field(grid.kind) and grid.is_square and read_number(grid.kind, claim[2]) == plain_det(grid.kind, grid.rows)
    if word == "least":
        return least_poly(grid) == Poly.read(claim[2])
    other = Grid.read(claim[2])
    if word == "rows":
        if grid.kind == "whole":
            return same_lattice(grid, other)
        rows = [tuple(one.row(k) for k in range(len(one))) for one in (grid, other)]
        return grid.shape[1] == other.shape[1] and base_of(rows[0]) == base_of(rows[1])
    if word in ("alike", "not alike"):
        return is_alike(grid, other) == (word == "alike")
    if word == "mate":
        return grid.kind == other.kind == "ratio" and mate(grid) == other
    forms = {"stairs": stair_form, "whole stairs": whole_stair, "cores": core_grid, "blocks": block_form}
    return forms[word](grid) == other


def of_columns(word, claim):
    grid, column = Grid.read(claim[1]), Column.read(claim[2])
    if word in ("solved", "barred"):
        found = solvable(grid, column)
        return found if word == "solved" else found is False
    if word == "nearest":
        return {grid.kind, column.kind} == {"ratio"} and nearest(grid, column) == Column.read(claim[3])
    return (member_by(grid, column) is not None) == (word == "member")


def of_polys(word, claim):
    if word == "least rule":
        kind, poly = claim[1], Poly.read(claim[3])
        run = tuple(read_number(kind, text) for text in claim[2])
        return is_rule(kind, run, poly) and reach(kind, run) == poly.degree
    poly = Poly.read(claim[1])
    if word == "common":
        other, shared = Poly.read(claim[2]), Poly.read(claim[3])
        return bool(shared) and common(poly, other) == shared
    if poly.kind == "ratio":
        return None
    return is_single(poly) if word == "single" else bool(poly) and poly.degree > 1 and not is_single(poly)


def of_looks(word, claim):
    pairs = tuple((Column.read(x), Column.read(y)) for x, y in claim[1])
    if not pairs:
        return False
    looks = Looks(pairs[0][0].kind, (len(pairs[0][1]), len(pairs[0][0])), pairs)
    if word == "quarrel":
        return quarrel(looks) is not None
    column = Column.read(claim[2])
    if quarrel(looks) is not None:
        return word == "sure" and Column.read(claim[3]).kind == looks.kind and len(column) == looks.shape[1]
    found = sure(looks, column)
    return found is None if word == "open" else found is not None and found == Column.read(claim[3])


def is_so(claim):
    """Whether a claim is so; None where other functions do not tell; False for what is none."""
    if type(claim) is not tuple or not claim or type(claim[0]) is not str or LENGTHS.get(claim[0]) != len(claim):
        return False
    word = claim[0]
    try:
        if word in ("solved", "barred", "member", "no member", "nearest"):
            return of_columns(word, claim)
        if word in ("common", "parted", "single", "least rule"):
            return of_polys(word, claim)
        return of_looks(word, claim) if word in ("sure", "open", "quarrel") else of_grids(word, claim)
    except (WrongValue, NoAnswer, TypeError, ValueError):
        return False


def near_texts(text, source):
    """Texts near to one: of values with one number changed, and with one sign changed."""
    for make in (Grid, Column, Poly):
        try:
            yield from near_values(make.read(text), source)
        except WrongValue:
            pass
    for _ in range(3):
        at = source.randrange(len(text) + 1)
        sign = source.choice("0123456789-/,(); :")
        yield text[:at] + sign + text[at:]
        yield text[:at] + sign + text[at + 1:]
        yield text[:at] + text[at + 1:]
    for number in (0, 1):
        if number_or_none("whole", text) is not None or number_or_none("ratio", text) is not None:
            yield str(number) if "/" not in text else f"{number}/1"


def near_values(value, source):
    if isinstance(value, Poly):
        for k in range(value.degree + 2):
            yield (value + Poly(value.kind, (0,) * k + (1,))).text
        yield (value * 2).text
        return
    rows = [list(row) for row in (value.rows if isinstance(value, Grid) else (value.entries,))]
    for _ in range(3):
        i, j = source.randrange(len(rows)), source.randrange(len(rows[0]))
        changed = [tuple(row) for row in rows]
        changed[i] = tuple(entry + 1 if k == j else entry for k, entry in enumerate(rows[i]))
        yield (Grid(tuple(changed)) if isinstance(value, Grid) else Column(changed[0])).text
    yield (value * 2).text
    yield (value - value).text
    yield (value.turned if isinstance(value, Grid) else Grid((value.entries,))).text
    if isinstance(value, Grid) and len(rows) > 1:
        yield Grid(value.rows[1:]).text
        yield Grid(value.rows[1:] + value.rows[:1]).text
    if isinstance(value, Column) and len(value) > 1:
        yield Column(value.entries[1:]).text


def near(value, source):
    """Values near to a claim or a paper: one part of it changed."""
    if isinstance(value, str):
        yield from near_texts(value, source)
    elif isinstance(value, int):
        yield from (value + 1, value - 1, -value, bool(value), str(value))
    elif isinstance(value, tuple):
        for k, part in enumerate(value):
            for other in near(part, source):
                yield value[:k] + (other,) + value[k + 1:]
            yield value[:k] + value[k + 1:]
        yield value + value[:1]
        yield value + ("",)
        yield value[::-1]
