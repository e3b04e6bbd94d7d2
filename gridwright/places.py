"""Told places of a hidden plain grid over a field, and what they make sure.

Rows and places are told apart as pairs (0, i) and (1, j). A plain grid is a number for each row times one for each
place; a told place tells one of both by the other one.
"""

from gridwright.checks import check_index
from gridwright.errors import InvalidPlaces, NotAField, NotRests, Quarrels
from gridwright.grids import Grid
from gridwright.kinds import check_kind, is_field, number_in, one, unit_inverse
from gridwright.limits import MOST_PLACES
from gridwright.looks import check_told_shape
from gridwright.scalars import modulus_of
from gridwright.wholes import lies_between, raised


def _checked_places(kind, shape, places):
    """The list of the told places, which are looked at, with numbers of the kind."""
    check_kind(kind)
    if not is_field(kind):
        raise NotAField(kind)
    check_told_shape(shape)
    if not isinstance(places, tuple):
        raise InvalidPlaces(None)
    told = []
    for index, value in enumerate(places):
        if index == MOST_PLACES or not _is_told_place(kind, shape, value):
            raise InvalidPlaces(index)
        if any([value[:2] == earlier[:2] for earlier in told]):
            raise InvalidPlaces(index)
        told.append((value[0], value[1], number_in(kind, value[2])))
    return told


def _is_told_place(kind, shape, value):
    """Whether a value is a triple of two indexes of a shape and of a number that is not nought in a kind."""
    if not isinstance(value, tuple) or len(value) != 3:
        return False
    if not lies_between(value[0], 0, shape[0] - 1) or not lies_between(value[1], 0, shape[1] - 1):
        return False
    return bool(number_in(kind, value[2]))


def _walked(kind, shape, told):
    """For each row and place the triple of where its lot begins, its number, and the told places on the way there."""
    found = {}
    for start in [(0, i) for i in range(shape[0])] + [(1, j) for j in range(shape[1])]:
        if start not in found:
            found[start] = (start, one(kind), ())
            left = [start]
            while left:
                joined = _joined_to(left.pop(), told, found)
                for place in joined:
                    found[place] = joined[place]
                    left.append(place)
    return found


def _joined_to(place, told, found):
    """What is found of the rows and places that told places join to one, and of which nothing is found yet."""
    start, number, way = found[place]
    joined = {}
    for at, (i, j, product) in enumerate(told):
        ends = ((0, i), (1, j))
        if place in ends:
            other = ends[1] if place == ends[0] else ends[0]
            if other not in found:
                joined[other] = (start, product * unit_inverse(number), (at,) + way)
    return joined


def _quarrelling_ring(told, found):
    """A ring of told places that quarrels; None if there is none."""
    for at, (i, j, product) in enumerate(told):
        _, number, way = found[(0, i)]
        _, other, other_way = found[(1, j)]
        if number * other != product:
            while way and other_way and way[-1] == other_way[-1]:
                way, other_way = way[:-1], other_way[:-1]
            return (at,) + way + other_way[::-1]
    return None


def ring_quarrel(kind, shape, places):
    """A ring of told places that quarrels; None if there is none."""
    told = _checked_places(kind, shape, places)
    return _quarrelling_ring(told, _walked(kind, shape, told))


def plain_grid(kind, shape, places):
    """A plain grid that fits; None if there is none."""
    told = _checked_places(kind, shape, places)
    found = _walked(kind, shape, told)
    if _quarrelling_ring(told, found) is not None:
        return None
    return Grid(tuple([tuple([_product(found, i, j) for j in range(shape[1])]) for i in range(shape[0])]))


def _product(found, i, j):
    """The number of a row times that of a place."""
    _, number, _ = found[(0, i)]
    _, other, _ = found[(1, j)]
    return number * other


def _starts(found):
    """For each row and place where its lot begins."""
    return {place: found[place][0] for place in found}


def lots(kind, shape, places):
    """The ascending tuple of pairs of the rows and the places that are joined to one another."""
    told = _checked_places(kind, shape, places)
    starts = _starts(_walked(kind, shape, told))
    pairs = []
    for start in starts:
        if starts[start] == start:
            rows = [i for i in range(shape[0]) if starts[(0, i)] == start]
            pairs.append((tuple(rows), tuple([j for j in range(shape[1]) if starts[(1, j)] == start])))
    return tuple(sorted(pairs))


def placed(kind, shape, places, i, j):
    """The number at an entry of all plain grids that fit; None if it is not the same in all."""
    told = _checked_places(kind, shape, places)
    check_index(i, shape[0])
    check_index(j, shape[1])
    found = _walked(kind, shape, told)
    if _quarrelling_ring(told, found) is not None:
        raise Quarrels()
    starts = _starts(found)
    # By two there is one number only that is not nought.
    return _product(found, i, j) if starts[(0, i)] == starts[(1, j)] or kind == "rest 2" else None


def plain_number(kind, shape, places):
    """How many plain grids fit, by a prime."""
    told = _checked_places(kind, shape, places)
    prime = modulus_of(kind)
    if prime is None:
        raise NotRests(kind)
    found = _walked(kind, shape, told)
    if _quarrelling_ring(told, found) is not None:
        return 0
    starts = _starts(found)
    return raised(1, prime - 1, len([start for start in starts if starts[start] == start]) - 1)
