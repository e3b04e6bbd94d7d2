"""Claims that are so, with papers that show them to the checker."""

from gridwright.checks import (
    check_alike_kinds, check_fields, check_poly, check_same_width, check_square, check_wholes_or_fields,
)
from gridwright.columns import Column, check_column, dot
from gridwright.cores import core_turnings
from gridwright.dividing import bezout
from gridwright.errors import NotAField, NotMonic, Nought, TooFew
from gridwright.fieldgrids import check_field_grid, check_field_square
from gridwright.followers import block_turning
from gridwright.grids import Grid, check_grid, from_columns, from_rows, order_sign
from gridwright.halves import left_inverse, ordered_triangles, right_inverse
from gridwright.inverting import inverse_rows
from gridwright.kinds import is_field, one, written
from gridwright.lattices import member_bar, member_by
from gridwright.leading import led
from gridwright.leaning import closest, mate, nearest
from gridwright.letters import poly_at
from gridwright.looks import check_column_beside, check_looks, fitting, numbers_to, quarrel, sure
from gridwright.polyclaims import power_rests
from gridwright.restsolving import first_rest_solution, rest_bar
from gridwright.rounds import full_pair, round_of
from gridwright.runs import least_rule, run_bar, run_numbers
from gridwright.scalars import modulus_of
from gridwright.similar import leading_grid, telling_poly
from gridwright.singles import is_single, singles
from gridwright.solving import bar, solution, solve_grid
from gridwright.stairs import rank_parts, stair_turning
from gridwright.stepping import nought_rows
from gridwright.tables import one_rows
from gridwright.wholes import primes_of
from gridwright.wholesolving import whole_bar, whole_solution
from gridwright.wholestairs import whole_turning


def _texts(numbers):
    """The tuple of the texts of numbers."""
    return tuple([written(number) for number in numbers])


def _inverse(grid):
    """The inverse of a turning grid."""
    return Grid(inverse_rows(grid.kind, grid.rows))


def _with_inverse(grid):
    """The pair of the texts of a turning grid and of its inverse."""
    return grid.text, _inverse(grid).text


def _check_solvable(values):
    """That all values are whole, over fields, or of rests."""
    for value in values:
        if value.kind != "whole" and not is_field(value.kind) and modulus_of(value.kind) is None:
            raise NotAField(value.kind)


def _solved_and_barred(grid, column):
    """The pair of a solution of an equation and of a bar of it, one of which is None."""
    if grid.kind == "whole":
        return whole_solution(grid, column), whole_bar(grid, column)
    if is_field(grid.kind):
        return solution(grid, column), bar(grid, column)
    return first_rest_solution(grid, column), rest_bar(grid, column)


def certify_turning(grid):
    """That a square grid is a turning grid, or is none."""
    check_grid(grid)
    _check_solvable((grid,))
    check_square(grid)
    if inverse_rows(grid.kind, grid.rows) is not None:
        return ("turning", grid.text), _inverse(grid).text
    # What bars an equation of the grid turned over is led by the grid to nought, or to what is whole.
    units = [Column(row) for row in one_rows(grid.kind, len(grid))]
    bars = [_solved_and_barred(grid.turned, unit)[1] for unit in units]
    return ("not turning", grid.text), [column.text for column in bars if column is not None][0]


def _rank_paper(grid):
    """The pair of the rank of a grid over a field and of the paper that shows it."""
    if not grid:
        return 0, ()
    columns, rows = rank_parts(grid)
    return len(rows), (columns.text, rows.text, left_inverse(columns).text, right_inverse(rows).text)


def certify_rank(grid):
    """The rank of a grid."""
    check_field_grid(grid)
    rank, paper = _rank_paper(grid)
    return ("rank", grid.text, rank), paper


def certify_stairs(grid):
    """The stair form of a grid."""
    turning = stair_turning(grid)
    return ("stairs", grid.text, (turning * grid).text), _with_inverse(turning)


def certify_whole_stairs(grid):
    """The whole stair form of a grid."""
    turning = whole_turning(grid)
    return ("whole stairs", grid.text, (turning * grid).text), _with_inverse(turning)


def certify_cores(grid):
    """The core grid of a grid."""
    left, right = core_turnings(grid)
    return ("cores", grid.text, (left * grid * right).text), _with_inverse(left) + _with_inverse(right)


def certify_blocks(grid):
    """The block form of a grid."""
    turning = block_turning(grid)
    return ("blocks", grid.text, (_inverse(turning) * grid * turning).text), _with_inverse(turning)


def certify_alike(grid, other):
    """That two grids are alike, or are not."""
    turning = leading_grid(grid, other)
    if turning is not None:
        return ("alike", grid.text, other.text), _with_inverse(turning)
    poly = telling_poly(grid, other)
    first, second = _rank_paper(poly_at(poly, grid)), _rank_paper(poly_at(poly, other))
    return ("not alike", grid.text, other.text), (poly.text,) + first + second


def certify_least(grid):
    """The least poly of a grid."""
    check_field_square(grid)
    column, poly = full_pair(grid)
    return ("least", grid.text, poly.text), (column.text, left_inverse(from_columns(round_of(grid, column))).text)


def certify_solution(grid, column):
    """That an equation has a solution, or has none."""
    check_grid(grid)
    check_column(column)
    _check_solvable((grid, column))
    check_alike_kinds((grid, column))
    found, barring = _solved_and_barred(grid, column)
    if found is None:
        return ("barred", grid.text, column.text), barring.text
    return ("solved", grid.text, column.text), found.text


def certify_member(grid, column):
    """That a column is in a lattice, or is not."""
    found = member_by(grid, column)
    if found is None:
        return ("no member", grid.text, column.text), member_bar(grid, column).text
    return ("member", grid.text, column.text), found.text


def _made_of(grid, other):
    """The grid that times another one is a grid, over a field or whole; None if there is none."""
    if grid.kind != "whole":
        found = solve_grid(other.turned, grid.turned)
        return None if found is None else found.turned
    numbers = [member_by(other, grid.row(k)) for k in range(len(grid))]
    return None if any([column is None for column in numbers]) else from_rows(tuple(numbers))


def certify_rows(grid, other):
    """That the rows of two grids have one span or one lattice; None if they have not."""
    check_grid(grid)
    check_grid(other)
    check_wholes_or_fields((grid, other))
    check_alike_kinds((grid, other))
    check_same_width(grid, other)
    first, second = _made_of(grid, other), _made_of(other, grid)
    if first is None or second is None:
        return None
    return ("rows", grid.text, other.text), (first.text, second.text)


def certify_determinant(grid):
    """The determinant of a grid."""
    order, lower, upper = ordered_triangles(grid)
    product = one(grid.kind) * order_sign(order)
    for k, row in enumerate(upper.rows):
        product = product * row[k]
    return ("determinant", grid.text, written(product)), (order, lower.text, upper.text)


def certify_common(poly, other):
    """The common part of two polys."""
    check_poly(poly)
    check_poly(other)
    check_fields((poly, other))
    check_alike_kinds((poly, other))
    if not poly and not other:
        raise Nought()
    shared, times, other_times = bezout(poly, other)
    polys = (poly // shared, other // shared, times, other_times)
    return ("common", poly.text, other.text, shared.text), tuple([part.text for part in polys])


def certify_single(poly):
    """That a poly by a prime is single, or has parts of less degree."""
    alone = is_single(poly)
    if poly.degree == 0:
        raise NotMonic(poly)
    if not alone:
        part, _ = singles(poly)[0]
        return ("parted", poly.text), (part.text, (poly // part).text)
    rests = power_rests(poly)
    paper = []
    for prime in primes_of(poly.degree):
        _, times, other_times = bezout(poly, rests[poly.degree // prime])
        paper.append((times.text, other_times.text))
    return ("single", poly.text), tuple(paper)


def certify_least_rule(kind, run):
    """A least rule of a run."""
    rule = least_rule(kind, run)
    claim = ("least rule", kind, _texts(run_numbers(kind, run)), rule.text)
    return claim, _texts(run_bar(kind, run, rule.degree - 1)) if rule.degree > 0 else ()


def certify_nearest(grid, column):
    """The column of the span of a grid's columns that is nearest to a column."""
    found = nearest(grid, column)
    claim = ("nearest", led(grid, "ratio").text, led(column, "ratio").text, found.text)
    return claim, closest(grid, column).text


def certify_mate(grid):
    """The mate of a grid."""
    found = mate(grid)
    return ("mate", led(grid, "ratio").text, found.text), ()


def certify_look(looks, column):
    """That looks quarrel, or that what a column is led to is sure, or that it is open."""
    check_looks(looks)
    check_column_beside(looks, column)
    if not looks.pairs:
        raise TooFew(0)
    pairs = tuple([(x.text, y.text) for x, y in looks.pairs])
    quarrelling = quarrel(looks)
    if quarrelling is not None:
        return ("quarrel", pairs), _texts(quarrelling)
    numbers = numbers_to(looks, column)
    if numbers is not None:
        return ("sure", pairs, column.text, sure(looks, column).text), _texts(numbers)
    rows = [Column(row) for row in nought_rows(looks.kind, [x.entries for x, _ in looks.pairs], len(column))]
    telling = [row for row in rows if dot(row, column)][0]
    return ("open", pairs, column.text), (fitting(looks).text, telling.text)
