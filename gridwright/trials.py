"""Trials: if what is tried ends with an exception, what was tried on is as it was.

What a trial is made for holds its state as the one thing in a list, which the trial has, too.
"""


class Kept:
    """A state that is kept, and what was kept before it."""

    def __init__(self, state, earlier):
        self.state = state
        self.earlier = earlier


class Trial:
    """What stands in a `with` statement, also in several ones within each other."""

    def __init__(self, owner, held):
        self._owner = owner
        self._held = held
        self._kept = None

    def __eq__(self, other):
        return self is other

    def __enter__(self):
        self._kept = Kept(self._held[0], self._kept)
        return self._owner

    def __exit__(self, kind, value, trace):
        if kind is not None:
            self._held.clear()
            self._held.append(self._kept.state)
        self._kept = self._kept.earlier
