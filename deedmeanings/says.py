"""Says: what is true or false for each choice of tests that hold."""

from deedmeanings.errors import BadName, BadTerm, BadTruth
from deedmeanings.names import are_names, is_list, is_name, mask_of, merged, subsets


class Say:
    """What tells, for each choice of tests that hold, true or false.

    Inside, a say has the ascending tuple of its tests and a table, an integer whose bit k tells what it
    tells where just those tests hold whose places in the tuple are the bits of k.
    """

    def __init__(self, names, table):
        # Tests that make no difference are left out, so that equal says have equal names and tables.
        kept = tuple([name for place, name in enumerate(names) if makes_difference(len(names), table, place)])
        self._names = kept
        self._table = table_over(names, table, kept)

    @staticmethod
    def test(name):
        """The say that is true where a test holds."""
        if not is_name(name):
            raise BadName(name)
        return Say((name,), 2)

    @staticmethod
    def yes():
        """The say that is always true."""
        return Say((), 1)

    @staticmethod
    def no():
        """The say that is never true."""
        return Say((), 0)

    @staticmethod
    def of_terms(terms):
        """The say that is true where one of some terms is."""
        if not is_list(terms):
            raise BadTerm(0)
        for index, term in enumerate(terms):
            if not is_term(term):
                raise BadTerm(index)
        say = Say.no()
        for yes, no in terms:
            names = merged(yes, no)
            say = say | Say(names, term_table(names, lacking_tables(len(names)), yes, no))
        return say

    def tests(self):
        """The ascending list of the tests that make a difference."""
        return list(self._names)

    def holds(self, true):
        """Whether the say is true where just the tests of a list hold."""
        for name in true:
            if not is_name(name):
                raise BadName(name)
        index = mask_of([place for place, name in enumerate(self._names) if name in true])
        return self._table >> index & 1 == 1

    def given(self, name, truth):
        """The say that tells what this one tells with a test holding, or not holding."""
        if not is_name(name):
            raise BadName(name)
        if truth is not True and truth is not False:
            raise BadTruth(truth)
        table = self._table
        for place, other in enumerate(self._names):
            if other == name:
                table = settled(len(self._names), table, place, truth)
        return Say(self._names, table)

    def some(self, name):
        """The say that is true where it is with a test holding or without it."""
        return self.given(name, True) | self.given(name, False)

    def every(self, name):
        """The say that is true where it is both with a test holding and without it."""
        return self.given(name, True) & self.given(name, False)

    def terms(self):
        """The list of all prime terms of the say, in their order."""
        names = self._names
        lacking = lacking_tables(len(names))
        found = [(yes, no) for yes in subsets(names) for no in subsets(rest_of(names, yes))
                 if is_prime(names, lacking, self._table, yes, no)]
        return [(yes, no) for size in range(len(names) + 1) for yes, no in found if len(yes) + len(no) == size]

    def over(self, names):
        """The table of the say, told over an ascending tuple of names that has its tests."""
        return table_over(self._names, self._table, names)

    def __and__(self, other):
        if not isinstance(other, Say):
            return NotImplemented
        names = merged(self._names, other._names)
        return Say(names, self.over(names) & other.over(names))

    def __or__(self, other):
        if not isinstance(other, Say):
            return NotImplemented
        names = merged(self._names, other._names)
        return Say(names, self.over(names) | other.over(names))

    def __xor__(self, other):
        if not isinstance(other, Say):
            return NotImplemented
        names = merged(self._names, other._names)
        return Say(names, self.over(names) ^ other.over(names))

    def __invert__(self):
        return Say(self._names, everywhere(len(self._names)) ^ self._table)

    def __le__(self, other):
        if not isinstance(other, Say):
            return NotImplemented
        names = merged(self._names, other._names)
        return self.over(names) & ~other.over(names) == 0

    def __lt__(self, other):
        if not isinstance(other, Say):
            return NotImplemented
        return self <= other and not self == other

    def __eq__(self, other):
        return isinstance(other, Say) and self._names == other._names and self._table == other._table


def everywhere(count):
    """The table, over so many tests, of what is always true."""
    return (1 << (1 << count)) - 1


def without(count, place):
    """The table, over so many tests, of where the test at a place does not hold."""
    return mask_of([index for index in range(1 << count) if not index >> place & 1])


def settled(count, table, place, truth):
    """The table of what a table tells with the test at a place holding, or not holding."""
    shift = 1 << place
    half = (table >> shift if truth else table) & without(count, place)
    return half | half << shift


def makes_difference(count, table, place):
    """Whether a table tells otherwise for some choice with the test at a place than without it."""
    return settled(count, table, place, True) != settled(count, table, place, False)


def table_over(names, table, wanted):
    """The table that tells the same over other names; those left out make no difference."""
    if names == wanted:
        return table
    numbers = {name: place for place, name in enumerate(names)}
    places = [(numbers[name], place) for place, name in enumerate(wanted) if name in numbers]
    told = 0
    for index in range(1 << len(wanted)):
        narrow = mask_of([mine for mine, place in places if index >> place & 1])
        told = told | (table >> narrow & 1) << index
    return told


def is_term(thing):
    """Whether a thing is a pair of lists of names in which no name stands twice."""
    if not is_list(thing) or len(thing) != 2:
        return False
    yes, no = thing
    return is_list(yes) and is_list(no) and are_names(list(yes) + list(no))


def rest_of(names, some):
    """The names but for some of them."""
    return tuple([name for name in names if name not in some])


def lacking_tables(count):
    """The tables, over so many tests, of where each of them does not hold."""
    return [without(count, place) for place in range(count)]


def term_table(names, lacking, yes, no):
    """The table, over names, of where all of yes hold and none of no."""
    table = everywhere(len(names))
    for name, absent in zip(names, lacking):
        if name in yes:
            table = table & ~absent
        if name in no:
            table = table & absent
    return table


def is_prime(names, lacking, table, yes, no):
    """Whether a table is true wherever a term is, and no longer if a name of the term is left out."""
    if term_table(names, lacking, yes, no) & ~table:
        return False
    shorter = [(rest_of(yes, (name,)), no) for name in yes] + [(yes, rest_of(no, (name,))) for name in no]
    return all([term_table(names, lacking, some, others) & ~table for some, others in shorter])
