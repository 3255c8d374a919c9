"""The errors of the package.

Each kind of failure has a class of its own; all are DeedErrors, and none is a kind of another one.
What an error was made with is kept, as it is, in the attribute of the same name.
"""


class DeedError(ValueError):
    """What all errors of the package have in common."""


class BadName(DeedError):
    """Something that is no name, or that may not be one here."""

    def __init__(self, name):
        self.name = name


class BadTruth(DeedError):
    """Something that is neither True nor False."""

    def __init__(self, thing):
        self.thing = thing


class BadTerm(DeedError):
    """The place of the first thing that is no term."""

    def __init__(self, index):
        self.index = index


class BadTests(DeedError):
    """Something that is no list of the tests of a book."""

    def __init__(self, thing):
        self.thing = thing


class BadDeeds(DeedError):
    """Something that is no list of the deeds of a book."""

    def __init__(self, thing):
        self.thing = thing


class BadPromise(DeedError):
    """The place of the first thing that is no promise."""

    def __init__(self, index):
        self.index = index


class BadTruths(DeedError):
    """Something that is no list of unlike tests of the book."""

    def __init__(self, thing):
        self.thing = thing


class NoDeed(DeedError):
    """Something that is no deed of the book."""

    def __init__(self, thing):
        self.thing = thing


class NoTest(DeedError):
    """The least test of a say that the book has not."""

    def __init__(self, name):
        self.name = name


class UnlikeBooks(DeedError):
    """Things of unlike books were put together."""


class BadCount(DeedError):
    """Something that is no integer from 0 on."""

    def __init__(self, thing):
        self.thing = thing


class NoPlace(DeedError):
    """Something that is no place of the reader."""

    def __init__(self, thing):
        self.thing = thing


class BadSize(DeedError):
    """Something that is no integer from 1 on."""

    def __init__(self, thing):
        self.thing = thing


class BadSet(DeedError):
    """The name whose states are not told as they should be."""

    def __init__(self, name):
        self.name = name


class BadWays(DeedError):
    """The deed whose ways are not told as they should be."""

    def __init__(self, name):
        self.name = name


class Broken(DeedError):
    """The first promise that a meaning does not keep."""

    def __init__(self, promise):
        self.promise = promise


class NoState(DeedError):
    """Something that is no state of the meaning."""

    def __init__(self, thing):
        self.thing = thing


class BadRow(DeedError):
    """Something that is no row of the book."""

    def __init__(self, thing):
        self.thing = thing


class BadLine(DeedError):
    """The number of the first line that is not as it should be."""

    def __init__(self, index):
        self.index = index


class NoName(DeedError):
    """Something under which nothing is kept."""

    def __init__(self, name):
        self.name = name


class Refused(DeedError):
    """The first row of a proposal that the flow has not."""

    def __init__(self, row):
        self.row = row


class Leaned(DeedError):
    """The name of a promise on which something taken leans."""

    def __init__(self, name):
        self.name = name


class NothingToUndo(DeedError):
    """There is no deed to take back, or to do again."""


class BadText(DeedError):
    """Something that is no text of the kind that was asked for."""


class BadBar(DeedError):
    """The place of the first thing that is no flow of the book."""

    def __init__(self, index):
        self.index = index


class BadIndex(DeedError):
    """Something at which no row stands."""

    def __init__(self, thing):
        self.thing = thing


class NoRow(DeedError):
    """Something that is no row of the flow."""

    def __init__(self, thing):
        self.thing = thing


class BadCosts(DeedError):
    """The deed whose costs are not told as they should be."""

    def __init__(self, name):
        self.name = name


class BadPurse(DeedError):
    """Something that is no amount that a purse may hold."""

    def __init__(self, thing):
        self.thing = thing


class BadWeights(DeedError):
    """The deed whose weights are not told as they should be."""

    def __init__(self, name):
        self.name = name


class NotSure(DeedError):
    """A flow that leaves a choice stands where none may."""


class BadEquation(DeedError):
    """The name whose equation is not told as it should be."""

    def __init__(self, name):
        self.name = name
