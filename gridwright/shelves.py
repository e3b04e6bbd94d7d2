"""Shelves that keep grids under names, and wishes that hold after each change."""

from gridwright.checks import check_index
from gridwright.errors import Broken, InUse, InvalidName, NothingToUndo, UnknownName
from gridwright.grids import check_grid
from gridwright.trials import Trial
from gridwright.wishes import check_names, grids_by_name, holds_with, is_name, names_in


class Store:
    """Grids under names, wishes, how many changes have led there, and what was before the last one."""

    def __init__(self, grids, kept, many, earlier):
        self.grids = grids
        self.kept = kept
        self.many = many
        self.earlier = earlier


class Shelf:
    """Grids under names, with wishes that hold after each change; changes can be taken back."""

    def __init__(self):
        # One thing in a list, so that trials can put it back.
        self._held = [Store({}, (), 0, None)]

    @property
    def names(self):
        """The ascending tuple of the names."""
        return tuple(sorted(list(self._held[0].grids)))

    @property
    def wishes(self):
        """The tuple of the wishes."""
        return self._held[0].kept

    @property
    def changes(self):
        """How many changes can be taken back."""
        return self._held[0].many

    def __eq__(self, other):
        return self is other

    def __bool__(self):
        return True

    def __len__(self):
        return len(self._held[0].grids)

    def __contains__(self, x):
        return isinstance(x, str) and x in self._held[0].grids

    def put(self, name, grid):
        """Puts a grid under a name, also in the place of another one."""
        if not is_name(name):
            raise InvalidName(name)
        check_grid(grid)
        _put_grids(self._held, {name: grid})

    def put_all(self, pairs):
        """Puts several grids under their names at once."""
        _put_grids(self._held, grids_by_name(pairs))

    def named(self, name):
        """The grid under a name."""
        if name not in self:
            raise UnknownName(name)
        return self._held[0].grids[name]

    def drop(self, name):
        """Takes the grid under a name away."""
        if name not in self:
            raise UnknownName(name)
        for index, wish in enumerate(self.wishes):
            if name in names_in(wish):
                raise InUse(index)
        grids = self._held[0].grids
        _change(self._held, {other: grids[other] for other in grids if other != name}, self.wishes)

    def wish(self, wish):
        """A wish more, behind the others."""
        grids = self._held[0].grids
        check_names(wish, grids)
        if not holds_with(wish, grids):
            raise Broken(len(self.wishes))
        _change(self._held, grids, self.wishes + (wish,))

    def lift(self, index):
        """Takes a wish away."""
        check_index(index, len(self.wishes))
        _change(self._held, self._held[0].grids, self.wishes[:index] + self.wishes[index + 1:])

    def undo(self):
        """Takes back the last change that has not been taken back."""
        earlier = self._held[0].earlier
        if earlier is None:
            raise NothingToUndo()
        self._held[0] = earlier

    def trial(self):
        """What stands in a `with` statement whose rows are undone if they end with an exception."""
        return Trial(self, self._held)

    def tried(self, action):
        """What a function tells that is called with the shelf within such a statement."""
        with self.trial() as shelf:
            told = action(shelf)
        return told


def _change(held, grids, wishes):
    """Puts other grids and wishes in the place of those that are held."""
    held[0] = Store(grids, wishes, held[0].many + 1, held[0])


def _put_grids(held, more):
    """Puts grids under their names, if all wishes hold then."""
    grids = {}
    for together in (held[0].grids, more):
        for name in together:
            grids[name] = together[name]
    for index, wish in enumerate(held[0].kept):
        # Wishes about other names hold as they did.
        if any([name in more for name in names_in(wish)]) and not holds_with(wish, grids):
            raise Broken(index)
    _change(held, grids, held[0].kept)
