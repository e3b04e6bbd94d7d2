"""Consoles, which do at a bench what lines of words say."""

from gridwright.benches import Bench
from gridwright.dets import det
from gridwright.errors import InvalidLine, NotABench
from gridwright.grids import trace
from gridwright.kinds import number_or_none, written
from gridwright.stairs import rank
from gridwright.wholes import read_whole

_SIGNS = {"swap": 3, "add": 4, "scale": 3}


class Console:
    """What does lines at a bench, and answers them."""

    def __init__(self, bench):
        if not isinstance(bench, Bench):
            raise NotABench(bench)
        self.bench = bench

    def __eq__(self, other):
        return self is other

    def say(self, line):
        """Does a line, and tells the answer."""
        if not isinstance(line, str):
            raise InvalidLine(line)
        deed = _deed_in(self.bench.start.kind, line.split(" "))
        if deed is not None:
            self.bench.do(deed)
            return "done"
        if line not in _ANSWERS:
            raise InvalidLine(line)
        answer = _ANSWERS[line]
        return answer(self.bench)


def _deed_in(kind, words):
    """The deed that words tell, which may be one for no bench; None if they tell none."""
    if words[0] == "column":
        deed = _plain_deed_in(kind, words[1:]) if len(words) > 1 else None
        return None if deed is None else ("column", deed)
    return _plain_deed_in(kind, words)


def _plain_deed_in(kind, words):
    """The same of words without `column` ahead."""
    if words[0] not in _SIGNS or len(words) != _SIGNS[words[0]]:
        return None
    many = 1 if words[0] == "scale" else 2
    indexes = [_index_or_none(word) for word in words[1:many + 1]]
    told = indexes + [number_or_none(kind, word) for word in words[many + 1:]]
    return None if any([part is None for part in told]) else (words[0],) + tuple(told)


def _index_or_none(word):
    """The whole number from 0 on with this text; None if there is none."""
    number = read_whole(word)
    return None if number is None or number < 0 else number


def _line_of(deed):
    """The words that tell a deed."""
    if deed[0] == "column":
        return f"column {_line_of(deed[1])}"
    many = 2 if deed[0] == "scale" else 3
    return " ".join([deed[0]] + [str(index) for index in deed[1:many]] + [written(number) for number in deed[many:]])


def _undo(bench):
    bench.undo()
    return "done"


def _finish(bench):
    bench.finish()
    return "done"


def _now(bench):
    return bench.now.text


def _start(bench):
    return bench.start.text


def _left(bench):
    return bench.left.text


def _right(bench):
    return bench.right.text


def _goal(bench):
    return "yes" if bench.is_goal() else "no"


def _deeds(bench):
    return ", ".join([_line_of(deed) for deed in bench.log]) if bench.log else "none"


def _many(bench):
    return str(len(bench))


def _rank(bench):
    return str(rank(bench.now))


def _determinant(bench):
    return written(det(bench.now))


def _trace(bench):
    return written(trace(bench.now))


_ANSWERS = {
    "undo": _undo, "finish": _finish, "now": _now, "start": _start, "left": _left, "right": _right, "goal": _goal,
    "deeds": _deeds, "many": _many, "rank": _rank, "determinant": _determinant, "trace": _trace,
}
