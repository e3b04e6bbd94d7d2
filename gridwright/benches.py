"""Benches on which grids are changed by deeds."""

from gridwright.checks import check_square
from gridwright.cores import MOST_SIDE_OF_POLYS, core_turnings
from gridwright.deeds import deeds_of
from gridwright.doing import back_of, deed_or_none, turned_ahead, turned_behind, turned_deed
from gridwright.errors import InvalidDeed, InvalidMode, NoGoal, NothingToUndo, TooMany
from gridwright.followers import block_turning
from gridwright.forms import has_cores, stands_as_cores, stands_in_blocks, stands_in_stairs, stands_in_whole_stairs
from gridwright.grids import Grid, check_grid, one_grid
from gridwright.inverting import inverse_rows
from gridwright.kinds import is_field
from gridwright.stairs import both_turnings, stair_turning
from gridwright.trials import Trial
from gridwright.wholestairs import whole_turning

_MODES = ("rows", "both", "turn")


class Stand:
    """A grid as deeds have led to it, the last one, None at first, and what was before it.

    The pair ahead is the turning grid, and its inverse, that leads there from the left, the pair behind from the right.
    """

    def __init__(self, grid, ahead, behind, deed, earlier):
        self.grid = grid
        self.ahead = ahead
        self.behind = behind
        self.deed = deed
        self.earlier = earlier


class Bench:
    """A grid that is changed by the deeds of a mode, which can be taken back."""

    def __init__(self, grid, mode):
        check_grid(grid)
        if not isinstance(mode, str) or mode not in _MODES:
            raise InvalidMode(mode)
        if mode == "turn":
            check_square(grid)
        left, right = one_grid(grid.kind, grid.shape[0]), one_grid(grid.kind, grid.shape[1])
        self.start = grid
        self.mode = mode
        # One thing in a list, so that trials can put it back.
        self._held = [Stand(grid, (left, left), (right, right), None, None)]

    @property
    def now(self):
        """The grid as it stands."""
        return self._held[0].grid

    @property
    def left(self):
        """The turning grid to which the deeds at rows have led."""
        return self._held[0].ahead[0]

    @property
    def left_inverse(self):
        """Its inverse."""
        return self._held[0].ahead[1]

    @property
    def right(self):
        """The turning grid to which the deeds at columns, or those that undo, have led."""
        return self._held[0].behind[0]

    @property
    def right_inverse(self):
        """Its inverse."""
        return self._held[0].behind[1]

    @property
    def log(self):
        """The tuple of the deeds that have not been taken back."""
        found = []
        stand = self._held[0]
        while stand.earlier is not None:
            found.append(stand.deed)
            stand = stand.earlier
        return tuple(found[::-1])

    def __eq__(self, other):
        return self is other

    def __bool__(self):
        return True

    def __len__(self):
        return len(self.log)

    def do(self, deed):
        """Does a deed of the mode."""
        plain = deed_of_mode(self.start, self.mode, deed)
        if plain is None:
            raise InvalidDeed(deed)
        self._held[0] = _stand_after(self._held[0], self.mode, plain)

    def undo(self):
        """Takes back the last deed that has not been taken back."""
        earlier = self._held[0].earlier
        if earlier is None:
            raise NothingToUndo()
        self._held[0] = earlier

    def is_goal(self):
        """Whether the grid is at the goal of the mode."""
        _check_goal(self.start, self.mode)
        return _is_at_goal(self.now, self.mode)

    def ways(self):
        """A tuple of deeds of the mode that lead to its goal."""
        _check_goal(self.start, self.mode)
        side = max(self.start.shape[0], self.start.shape[1])
        if self.start.kind.startswith("poly ") and side > MOST_SIDE_OF_POLYS:
            raise TooMany(side)
        return () if _is_at_goal(self.now, self.mode) else _ways_to_goal(self.now, self.mode)

    def finish(self):
        """Does deeds that lead to the goal."""
        ways = self.ways()
        for deed in ways:
            self.do(deed)

    def trial(self):
        """What stands in a `with` statement whose rows are undone if they end with an exception."""
        return Trial(self, self._held)

    def tried(self, action):
        """What a function tells that is called with the bench within such a statement."""
        with self.trial() as bench:
            told = action(bench)
        return told


def deed_of_mode(grid, mode, value):
    """The deed of a mode that a value is for a grid, its number led to the kind; None if it is none."""
    if mode != "both" or not isinstance(value, tuple) or len(value) != 2:
        return deed_or_none(grid.kind, grid.shape[0], value)
    if not isinstance(value[0], str) or value[0] != "column":
        return None
    deed = deed_or_none(grid.kind, grid.shape[1], value[1])
    return None if deed is None else ("column", deed)


def _stand_after(stand, mode, deed):
    """The stand after a deed of the mode."""
    if deed[0] == "column":
        # At columns the turning grid of the deed turned over stands behind.
        turned = turned_deed(deed[1])
        behind = _pair_behind(stand.behind, turned)
        return Stand(turned_behind(stand.grid, turned), stand.ahead, behind, deed, stand)
    grid, ahead = turned_ahead(stand.grid, deed), _pair_ahead(stand.ahead, deed)
    if mode != "turn":
        return Stand(grid, ahead, stand.behind, deed, stand)
    return Stand(turned_behind(grid, back_of(deed)), ahead, (ahead[1], ahead[0]), deed, stand)


def _pair_ahead(pair, deed):
    """The pair of a turning grid and its inverse after a deed's turning grid has been put ahead of it."""
    return turned_ahead(pair[0], deed), turned_behind(pair[1], back_of(deed))


def _pair_behind(pair, deed):
    """The same after it has been put behind it."""
    return turned_behind(pair[0], deed), turned_ahead(pair[1], back_of(deed))


def _check_goal(grid, mode):
    """That a mode has a goal for the kind of a grid."""
    kind = grid.kind
    if not has_cores(kind) or (mode == "rows" and kind != "whole" and not is_field(kind)):
        raise NoGoal(kind)
    if mode == "turn" and not is_field(kind):
        raise NoGoal(kind)


def _is_at_goal(grid, mode):
    """Whether a grid is at the goal of a mode that has one."""
    if mode == "both":
        return stands_as_cores(grid)
    if mode == "turn":
        return stands_in_blocks(grid)
    return stands_in_stairs(grid) if is_field(grid.kind) else stands_in_whole_stairs(grid)


def _ways_to_goal(grid, mode):
    """The tuple of deeds of a mode that lead a grid to the goal."""
    if mode == "rows":
        return deeds_of(stair_turning(grid) if is_field(grid.kind) else whole_turning(grid))
    if mode == "turn":
        return deeds_of(Grid(inverse_rows(grid.kind, block_turning(grid).rows)))
    left, right = both_turnings(grid) if is_field(grid.kind) else core_turnings(grid)
    return deeds_of(left) + tuple([("column", deed) for deed in deeds_of(right.turned)])
