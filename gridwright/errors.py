"""The errors of the package: three base classes, and each other class directly under one of them."""


class WrongValue(ValueError):
    """A value that was passed is not one of those that may be passed."""


class InvalidNumber(WrongValue):
    """What stands in the place of a number is none that may stand there."""
    def __init__(self, given):
        self.given = given


class InvalidKind(WrongValue):
    """What stands in the place of a kind is none."""
    def __init__(self, given):
        self.given = given


class InvalidText(WrongValue):
    """What stands in the place of a text is the text of no value that is asked."""
    def __init__(self, given):
        self.given = given


class InvalidIndex(WrongValue):
    """What stands in the place of an index is none."""
    def __init__(self, given):
        self.given = given


class InvalidOrder(WrongValue):
    """What stands in the place of an order is none."""
    def __init__(self, given):
        self.given = given


class InvalidDeed(WrongValue):
    """What stands in the place of a deed is none that may be done there."""
    def __init__(self, given):
        self.given = given


class InvalidMode(WrongValue):
    """What stands in the place of a bench's mode is none."""
    def __init__(self, given):
        self.given = given


class InvalidName(WrongValue):
    """What stands in the place of a name is none."""
    def __init__(self, given):
        self.given = given


class InvalidWish(WrongValue):
    """What stands in the place of a wish is none."""
    def __init__(self, given):
        self.given = given


class InvalidLine(WrongValue):
    """What a console is told is no line of a form that it knows."""
    def __init__(self, given):
        self.given = given


class NotANumber(WrongValue):
    """What stands in the place of a number of any kind is none."""
    def __init__(self, given):
        self.given = given


class NotAPoly(WrongValue):
    """What stands in the place of a poly is none."""
    def __init__(self, given):
        self.given = given


class NotAColumn(WrongValue):
    """What stands in the place of a column is none."""
    def __init__(self, given):
        self.given = given


class NotAGrid(WrongValue):
    """What stands in the place of a grid is none."""
    def __init__(self, given):
        self.given = given


class NotAGroup(WrongValue):
    """What stands in the place of a group is none."""
    def __init__(self, given):
        self.given = given


class NotLooks(WrongValue):
    """What stands in the place of looks are none."""
    def __init__(self, given):
        self.given = given


class NotABench(WrongValue):
    """What stands in the place of a bench is none."""
    def __init__(self, given):
        self.given = given


class InvalidCoefficients(WrongValue):
    """A coefficient is wrong."""
    def __init__(self, index):
        self.index = index


class InvalidEntries(WrongValue):
    """An entry is wrong."""
    def __init__(self, index):
        self.index = index


class InvalidRows(WrongValue):
    """A row is wrong."""
    def __init__(self, index):
        self.index = index


class InvalidColumns(WrongValue):
    """A column among several is wrong."""
    def __init__(self, index):
        self.index = index


class InvalidIndexes(WrongValue):
    """An index among several is wrong."""
    def __init__(self, index):
        self.index = index


class InvalidGrids(WrongValue):
    """A grid among several is wrong."""
    def __init__(self, index):
        self.index = index


class InvalidPoints(WrongValue):
    """A point is wrong."""
    def __init__(self, index):
        self.index = index


class InvalidBottoms(WrongValue):
    """A bottom is wrong."""
    def __init__(self, index):
        self.index = index


class InvalidPolys(WrongValue):
    """A poly among several is wrong."""
    def __init__(self, index):
        self.index = index


class InvalidRun(WrongValue):
    """A number of a run is wrong."""
    def __init__(self, index):
        self.index = index


class InvalidPairs(WrongValue):
    """A pair is wrong."""
    def __init__(self, index):
        self.index = index


class InvalidPlaces(WrongValue):
    """A told place is wrong."""
    def __init__(self, index):
        self.index = index


class InvalidLog(WrongValue):
    """A deed of a log is wrong."""
    def __init__(self, index):
        self.index = index


class NotAField(WrongValue):
    """The kind is no field."""
    def __init__(self, kind):
        self.kind = kind


class NotWhole(WrongValue):
    """The kind is not that of the whole numbers."""
    def __init__(self, kind):
        self.kind = kind


class NotOrdered(WrongValue):
    """The kind is none of those of whole numbers and ratios."""
    def __init__(self, kind):
        self.kind = kind


class NotRests(WrongValue):
    """The kind is none of rests."""
    def __init__(self, kind):
        self.kind = kind


class Unlike(WrongValue):
    """Two values are of two kinds."""
    def __init__(self, kind, other):
        self.kind = kind
        self.other = other


class NotLed(WrongValue):
    """The first kind does not lead to the other one."""
    def __init__(self, kind, other):
        self.kind = kind
        self.other = other


class NotSquare(WrongValue):
    """A grid has not as many rows as places."""
    def __init__(self, shape):
        self.shape = shape


class InvalidShape(WrongValue):
    """Two shapes do not fit."""
    def __init__(self, shape, other):
        self.shape = shape
        self.other = other


class WrongName(LookupError):
    """A name, or what is kept under it, is not there or cannot go."""


class UnknownName(WrongName):
    """Nothing is kept under this name."""
    def __init__(self, given):
        self.given = given


class InUse(WrongName):
    """A wish has this name."""
    def __init__(self, index):
        self.index = index


class NoAnswer(ArithmeticError):
    """The values may be passed, but what is asked of them does not exist."""


class NotAUnit(NoAnswer):
    """A number has no inverse."""
    def __init__(self, given):
        self.given = given


class NotApart(NoAnswer):
    """Two numbers have a common divisor above 1."""
    def __init__(self, given):
        self.given = given


class TooMany(NoAnswer):
    """There are more than can be dealt with."""
    def __init__(self, given):
        self.given = given


class TooFew(NoAnswer):
    """There are fewer than are needed."""
    def __init__(self, given):
        self.given = given


class TooGreat(NoAnswer):
    """A degree is too great."""
    def __init__(self, given):
        self.given = given


class NotARule(NoAnswer):
    """A poly is no rule of the run."""
    def __init__(self, given):
        self.given = given


class NotMonic(NoAnswer):
    """A poly is not monic, or has no degree from 1 on."""
    def __init__(self, given):
        self.given = given


class NoTriangles(NoAnswer):
    """A leading minor is nought."""
    def __init__(self, given):
        self.given = given


class NoGoal(NoAnswer):
    """The mode has no goal for this kind."""
    def __init__(self, kind):
        self.kind = kind


class Broken(NoAnswer):
    """A wish would not hold."""
    def __init__(self, index):
        self.index = index


class Nought(NoAnswer):
    """A value is nought that must not be."""


class NoInverse(NoAnswer):
    """A grid has no inverse."""


class NoRound(NoAnswer):
    """A rule comes to no round."""


class NoSuchRoot(NoAnswer):
    """There is not just one such root."""


class NotWithin(NoAnswer):
    """A lattice does not lie within the other one."""


class Quarrels(NoAnswer):
    """Nothing fits all that is told."""


class NothingToUndo(NoAnswer):
    """No change is left to be taken back."""
