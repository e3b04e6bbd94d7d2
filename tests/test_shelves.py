from drawn import drawn_grid, lot
from gridwright.errors import (
    Broken, InUse, InvalidIndex, InvalidName, InvalidPairs, InvalidWish, NotAGrid, NothingToUndo, UnknownName,
)
from gridwright.grids import Grid, nought_grid, one_grid
from gridwright.leading import led
from gridwright.ratios import Ratio
from gridwright.shelves import Shelf
from gridwright.wishes import holds
from support import SPOILT, Told
from test_benches import Wrong
from test_conventions import DEEP, Claims, Refuses
from test_grids import NO_GRIDS
from test_wishes import NO_NAMES, NO_WISHES

G, W = Grid(((2, 1), (4, 5))), Grid(((2, 0), (1, 3)))
NO_KEYS = [*SPOILT, DEEP, Claims(), Refuses(), *NO_NAMES, G, 5]


def filled():
    shelf = Shelf()
    shelf.put_all((("a", G), ("b", W), ("c", G * W)))
    shelf.wish(("product", "a", "b", "c"))
    shelf.wish(("determinant", "a", "6"))
    return shelf


def state(shelf):
    """All that a shelf shows."""
    return [shelf.names, tuple(shelf.named(name) for name in shelf.names), shelf.wishes, shelf.changes, len(shelf)]


class Shown(Told):
    def test_the_empty_shelf(self):
        shelf = Shelf()
        self.same(state(shelf), [(), (), (), 0, 0])
        self.same([bool(shelf), "a" in shelf, shelf == shelf, shelf == Shelf(), shelf != Shelf()], [True, False, True, False, True])
        self.refuses(NothingToUndo(), shelf.undo)
        self.refuses(UnknownName("a"), shelf.named, name="a")
        self.refuses(UnknownName("a"), shelf.drop, name="a")
        self.refuses(UnknownName("a"), shelf.wish, wish=("turning", "a"))
        self.refuses(InvalidIndex(0), shelf.lift, index=0)
        self.same(shelf.put_all(()), None)
        self.same(state(shelf), [(), (), (), 1, 0])
        shelf.undo()
        self.same(state(shelf), [(), (), (), 0, 0])

    def test_names_of_one_and_of_eight_letters(self):
        shelf = Shelf()
        for name in ("z", "abcdefgh", "b", "a"):
            self.same(shelf.put(name, G), None)
        self.same(state(shelf), [("a", "abcdefgh", "b", "z"), (G, G, G, G), (), 4, 4])
        self.same(["a" in shelf, "abcdefgh" in shelf, "c" in shelf], [True, True, False])
        for value in NO_KEYS:
            self.same([value in shelf, value not in shelf], [False, True])
            self.refuses(UnknownName(value), shelf.named, name=value)
            self.refuses(UnknownName(value), shelf.drop, name=value)
        for name in NO_NAMES:
            self.refuses(InvalidName(name), shelf.put, name=name, grid=None)

    def test_each_change_and_undoing(self):
        shelf = Shelf()
        shown = [state(shelf)]
        changes = (
            lambda: shelf.put("a", G), lambda: shelf.put(grid=W, name="b"), lambda: shelf.wish(("determinant", "b", "6")),
            lambda: shelf.put("a", G), lambda: shelf.put_all((("c", W), ("a", W))), lambda: shelf.put_all(pairs=()), lambda: shelf.wish(wish=("rows", "c", "a")),
            lambda: shelf.lift(0), lambda: shelf.drop("b"), lambda: shelf.lift(index=0), lambda: shelf.drop(name="a"),
        )
        for number, change in enumerate(changes):
            self.same(change(), None)
            self.same(shelf.changes, number + 1)
            shown.append(state(shelf))
        self.same(shown[-1], [("c",), (W,), (), 11, 1])
        while shelf.changes:
            shown.pop()
            self.same(shelf.undo(), None)
            self.same(state(shelf), shown[-1])
        self.refuses(NothingToUndo(), shelf.undo)

    def test_the_same_name_twice(self):
        shelf = Shelf()
        shelf.put("a", G)
        shelf.put("a", W)
        self.same(state(shelf), [("a",), (W,), (), 2, 1])
        shelf.undo()
        self.same(shelf.named("a"), G)
        self.refuses(InvalidPairs(1), shelf.put_all, pairs=(("a", G), ("a", G)))

    def test_truth_and_equality(self):
        shelf = filled()
        for value in (*SPOILT, DEEP, Claims(), Refuses(), Shelf, G, Shelf()):
            self.same([shelf == value, shelf != value], [False, True])
        self.same([bool(shelf), shelf == shelf, len(shelf), shelf.names, shelf.changes], [True, True, 3, ("a", "b", "c"), 3])


class Wishing(Told):
    def unchanged(self, shelf, error, call, **named):
        before = state(shelf)
        self.refuses(error, call, **named)
        self.same(state(shelf), before)

    def test_the_first_wish_that_would_not_hold(self):
        shelf = filled()
        self.unchanged(shelf, Broken(0), shelf.put, name="b", grid=G)
        self.unchanged(shelf, Broken(0), shelf.put, name="a", grid=W)
        self.unchanged(shelf, Broken(0), shelf.put_all, pairs=(("a", one_grid("whole", 2)), ("b", W)))
        self.unchanged(shelf, Broken(1), shelf.put_all, pairs=(("a", one_grid("whole", 2)), ("c", W)))
        self.unchanged(shelf, Broken(0), shelf.put, name="a", grid=led(G, "ratio"))
        # All at once what would not hold one after the other does.
        shelf.put_all((("a", G.turned), ("c", G.turned * W)))
        self.same([shelf.changes, shelf.named("a")], [4, G.turned])
        shelf.put("d", W)
        shelf.put("a", G.turned)
        self.same(shelf.changes, 6)

    def test_wishes_that_do_not_hold_or_have_no_sense(self):
        shelf = filled()
        for wish in (("determinant", "a", "5"), ("determinant", "a", "x"), ("rank", "a", 2), ("alike", "a", "b"), ("cores", "a", ("2", "3")),
                     ("commute", "a", "b"), ("kind", "a", "ratio"), ("turning", "b"), ("nought at", "a", "(1)"), ("rows", "a", "b"), ("sum", "a", "b", "c")):
            self.unchanged(shelf, Broken(2), shelf.wish, wish=wish)
        for wish in (("cores", "a", ("1", "6")), ("kind", "b", "whole"), ("nought at", "a", "(6,-7,1)"), ("rows", "a", "a"), ("commute", "a", "a")):
            shelf.wish(wish)
        self.same([len(shelf.wishes), shelf.wishes[2:4], shelf.changes], [7, (("cores", "a", ("1", "6")), ("kind", "b", "whole")), 8])
        shelf.wish(("kind", "b", "whole"))
        self.same(len(shelf.wishes), 8)

    def test_refusals(self):
        shelf = filled()
        for value in NO_WISHES:
            self.unchanged(shelf, InvalidWish(value), shelf.wish, wish=value)
        self.unchanged(shelf, UnknownName("d"), shelf.wish, wish=("turning", "d"))
        self.unchanged(shelf, UnknownName("x"), shelf.wish, wish=("sum", "a", "x", "y"))
        self.unchanged(shelf, UnknownName("A"), shelf.wish, wish=("rows", "A", "y"))
        for value in [*SPOILT, -1, 2, 10 ** 40, Ratio(0)]:
            self.unchanged(shelf, InvalidIndex(value), shelf.lift, index=value)
        for value in [*SPOILT, DEEP, Claims(), Refuses(), G, 5, *NO_NAMES]:
            if value is None or not isinstance(value, str) or value not in ("x",):
                self.unchanged(shelf, InvalidName(value), shelf.put, name=value, grid=None)
        for value in NO_GRIDS:
            self.unchanged(shelf, NotAGrid(value), shelf.put, name="x", grid=value)
        for value in [*[one for one in SPOILT if not isinstance(one, tuple)], Claims(), [("x", G)]]:
            self.unchanged(shelf, InvalidPairs(None), shelf.put_all, pairs=value)
        for value in [*SPOILT, ("x", None), (None, G), ("X", G), ("x", G, G), ["x", G], ("a", G), (Claims(), G)]:
            self.unchanged(shelf, InvalidPairs(1), shelf.put_all, pairs=(("a", W), value, None))

    def test_what_wishes_have_is_not_dropped(self):
        shelf = filled()
        self.unchanged(shelf, InUse(0), shelf.drop, name="a")
        self.unchanged(shelf, InUse(0), shelf.drop, name="c")
        shelf.lift(0)
        self.unchanged(shelf, InUse(0), shelf.drop, name="a")
        shelf.drop("c")
        self.same([shelf.names, shelf.wishes], [("a", "b"), (("determinant", "a", "6"),)])
        shelf.wish(("kind", "b", "whole"))
        self.unchanged(shelf, InUse(1), shelf.drop, name="b")

    def test_all_wishes_hold_after_each_drawn_change(self):
        source = lot("shelf")
        shelf = Shelf()
        kinds = ("whole", "ratio", "rest 3")
        shown = [state(shelf)]
        for _ in range(250):
            names = [source.choice("abc") for _ in range(3)]
            grid = source.choice((one_grid, lambda kind, size: drawn_grid(kind, size, size, source), lambda kind, size: nought_grid(kind, size, size)))(
                source.choice(kinds), source.choice((1, 2, 2)))
            wish = source.choice((("commute", *names[:2]), ("turning", names[0]), ("rank", names[0], 1), ("rows", *names[:2]), ("sum", *names),
                                  ("product", *names), ("kind", names[0], source.choice(kinds)), ("determinant", names[0], source.choice(("1", "1/1", "0")))))
            change = source.choice((
                lambda: shelf.put(names[0], grid), lambda: shelf.put(names[0], grid), lambda: shelf.wish(wish), lambda: shelf.drop(names[0]),
                lambda: shelf.lift(0), shelf.undo, lambda: shelf.put_all(tuple((name, grid) for name in sorted(set(names))))))
            before = state(shelf)
            try:
                change()
            except (Broken, InUse, UnknownName, InvalidIndex, NothingToUndo):
                self.same(state(shelf), before)
                continue
            if change == shelf.undo:
                shown.pop()
                self.same(state(shelf), shown[-1])
            else:
                shown.append(state(shelf))
                self.same(shelf.changes, len(shown) - 1)
            pairs = tuple((name, shelf.named(name)) for name in shelf.names)
            self.same(all(holds(one, pairs) for one in shelf.wishes), True)
        self.same(len(shown) > 40, True)


class Trials(Told):
    def test_a_trial_that_ends_well_stays(self):
        shelf = filled()
        with shelf.trial() as same:
            self.assertIs(same, shelf)
            same.put("d", W)
        self.same([shelf.names, shelf.changes], [("a", "b", "c", "d"), 4])
        shelf.undo()
        self.same(shelf.names, ("a", "b", "c"))

    def test_a_trial_that_ends_with_an_exception_is_taken_back(self):
        shelf = filled()
        before = state(shelf)
        for error in (Wrong, KeyboardInterrupt, Broken(7)):
            with self.assertRaises(BaseException) as caught:
                with shelf.trial():
                    shelf.lift(0)
                    shelf.drop("c")
                    shelf.undo()
                    shelf.undo()
                    shelf.undo()
                    shelf.undo()
                    shelf.put("zz", G)
                    raise error
            self.assertTrue(caught.exception is error or type(caught.exception) is error)
            self.same(state(shelf), before)
        with self.assertRaises(Broken) as caught:
            with shelf.trial():
                shelf.put("d", W)
                shelf.put("b", G)
        self.same([caught.exception.index, state(shelf) == before], [0, True])

    def test_trials_within_trials_and_alone(self):
        shelf = filled()
        before = state(shelf)
        trial = shelf.trial()
        self.same(state(shelf), before)
        with self.assertRaises(Wrong):
            with trial:
                shelf.put("d", W)
                inner = state(shelf)
                with self.assertRaises(UnknownName):
                    with trial:
                        shelf.put("e", W)
                        shelf.drop("f")
                self.same(state(shelf), inner)
                with shelf.trial():
                    shelf.put("e", W)
                self.same(len(shelf), 5)
                raise Wrong
        self.same(state(shelf), before)

    def test_tried(self):
        shelf = filled()
        before = state(shelf)
        self.same(shelf.tried(lambda same: (same is shelf, same.put("d", W), len(same))), (True, None, 4))
        shelf.undo()

        def wrong(same):
            same.put("d", W)
            raise Wrong

        for call in (lambda: shelf.tried(wrong), lambda: shelf.tried(action=wrong)):
            self.assertRaises(Wrong, call)
            self.same(state(shelf), before)
        self.same(shelf.tried(action=len), 3)
