"""Logs: deeds one after the other, played, led back, and drawn together."""

from gridwright.benches import Bench, deed_of_mode
from gridwright.doing import back_of, check_log
from gridwright.errors import InvalidLog
from gridwright.kinds import check_kind, one
from gridwright.limits import MOST_SIDE


def played(grid, mode, log):
    """A fresh bench to which the deeds of a log lead."""
    bench = Bench(grid, mode)
    if not isinstance(log, tuple):
        raise InvalidLog(None)
    for index, deed in enumerate(log):
        if deed_of_mode(grid, mode, deed) is None:
            raise InvalidLog(index)
        bench.do(deed)
    return bench


def way_home(kind, log):
    """The tuple of the ways back of deeds at rows, the last one first."""
    check_kind(kind)
    return tuple([back_of(deed) for deed in check_log(kind, MOST_SIDE, log)[::-1]])


def drawn_together(kind, log):
    """The tuple of deeds at rows without neighbours that are one deed, or none."""
    check_kind(kind)
    found = []
    for deed in check_log(kind, MOST_SIDE, log):
        # Ahead of the deed there are no such neighbours any more, so the first ones are its own.
        if found and _are_of_one_sort(found[-1], deed):
            found = found[:-1] + _together(kind, found[-1], deed)
        else:
            found.append(deed)
    return tuple(found)


def _are_of_one_sort(deed, other):
    """Whether two deeds are both swaps of the same rows, adds of the same indexes, or scales of one row."""
    if deed[0] != other[0]:
        return False
    if deed[0] == "scale":
        return deed[1] == other[1]
    return deed[1:3] == other[1:3] or (deed[0] == "swap" and deed[1] == other[2] and deed[2] == other[1])


def _together(kind, deed, other):
    """The list of the one deed that two of one sort are; empty if they do nothing."""
    if deed[0] == "swap":
        return []
    if deed[0] == "add":
        number = deed[3] + other[3]
        return [("add", deed[1], deed[2], number)] if number else []
    number = deed[2] * other[2]
    return [] if number == one(kind) else [("scale", deed[1], number)]
