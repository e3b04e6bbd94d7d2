"""Deeds that lead the rows of a turning grid to those of the one grid.

The kinds are fields, whole numbers, and polys over a field: in all of these numbers are divided with rest. A new row is
led on by the rows ahead of it that have a pivot, which end with what both share there; so it comes to a pivot itself.
"""

from gridwright.doing import done_rows
from gridwright.kinds import is_field, one, unit_inverse
from gridwright.polys import Poly


class Walk:
    """Rows of a kind, and the deeds that have led to them."""

    def __init__(self, kind, rows):
        self.kind = kind
        self.rows = rows
        self.deeds = []

    def step(self, deed):
        """Does a deed."""
        self.rows = done_rows(self.rows, deed)
        self.deeds.append(deed)

    def take_off(self, at, other, place):
        """Takes another row off a row as often as makes the number at a place a rest by the other one."""
        number, divisor = self.rows[at][place], self.rows[other][place]
        times = number * unit_inverse(divisor) if is_field(self.kind) else number // divisor
        if times:
            self.step(("add", at, other, -times))

    def make_plain(self, at, place):
        """Makes the number of a row at a place above 0, monic, or 1."""
        unit = _unit_to_plain(self.kind, self.rows[at][place])
        if unit != one(self.kind):
            self.step(("scale", at, unit))


def _unit_to_plain(kind, number):
    """The unit that times a number, not nought, makes one above 0, a monic one, or 1."""
    if kind == "whole":
        return 1 if number > 0 else -1
    return unit_inverse(number) if is_field(kind) else Poly(number.kind, (unit_inverse(number.lead),))


def _lower(walk, pivots, at, start):
    """Makes the numbers of a row at the places of pivots, from a start on, rests by these."""
    for place in sorted(list(pivots)):
        if place >= start and pivots[place] != at and walk.rows[at][place]:
            walk.take_off(at, pivots[place], place)


def _clear(walk, pivot, at, place):
    """Leads the row of a pivot and another one to what both share at the place, and to nought."""
    while walk.rows[at][place]:
        walk.take_off(at, pivot, place)
        if walk.rows[at][place]:
            walk.step(("swap", at, pivot))
            walk.make_plain(pivot, place)


def _bring_in(walk, pivots, at):
    """Leads a row on until it has a pivot of its own; tells the place of this."""
    for place in range(len(walk.rows)):
        if walk.rows[at][place]:
            if place not in pivots:
                walk.make_plain(at, place)
                return place
            _clear(walk, pivots[place], at, place)
            # Without being lowered at once the numbers further on would grow with each row.
            _lower(walk, pivots, pivots[place], place + 1)
            _lower(walk, pivots, at, place + 1)
    return None


def deeds_to_one(kind, rows):
    """The list of deeds that lead the rows of a turning grid to those of the one grid."""
    walk = Walk(kind, rows)
    pivots = {}
    for at in range(len(rows)):
        place = _bring_in(walk, pivots, at)
        pivots[place] = at
        for behind in sorted(list(pivots))[::-1]:
            _lower(walk, pivots, pivots[behind], behind + 1)
    # Each row has a single 1 now, but not yet in its place.
    for place in range(len(rows)):
        at = [k for k, row in enumerate(walk.rows) if row[place]][0]
        if at != place:
            walk.step(("swap", place, at))
    return walk.deeds
