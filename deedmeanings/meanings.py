"""Meanings: states, the tests that hold at them, and the ways by which deeds lead from one to another."""

from deedmeanings.errors import BadPromise, BadRow, BadSet, BadSize, BadWays, Broken, NoState, UnlikeBooks
from deedmeanings.flows import check_say
from deedmeanings.names import is_integer, is_list, mask_of, members
from deedmeanings.rows import row_by_numbers
from deedmeanings.says import Say


class Meaning:
    """States, in which tests hold, and the ways of deeds between them.

    Inside, each state has the number of its truths, and each deed, by its number, for each state the
    mask of the states to which a way leads from there.
    """

    def __init__(self, book, size, tests, deeds):
        if not is_integer(size) or size < 1:
            raise BadSize(size)
        check_sets(book.tests(), size, tests)
        check_ways(book.deeds(), size, deeds)
        self.book = book
        self.size = size
        self._marks = tuple([book.rank([name for name in book.tests() if state in tests[name]])
                             for state in range(size)])
        self._leading = tuple([tuple([mask_of([last for first, last in deeds[deed] if first == state])
                                      for state in range(size)]) for deed in book.deeds()])
        for promise in book.promises():
            if not self.keeps(promise):
                raise Broken(promise)

    @staticmethod
    def of_row(book, row):
        """The meaning that has the states of a row alone, one behind another."""
        if row_by_numbers(book, row) is None:
            raise BadRow(row)
        tests = {name: [state for state, truths in enumerate(row[::2]) if name in truths] for name in book.tests()}
        deeds = {deed: [(state, state + 1) for state, done in enumerate(row[1::2]) if done == deed]
                 for deed in book.deeds()}
        return Meaning(book, len(row) // 2 + 1, tests, deeds)

    def truths(self, state):
        """The truths of a state."""
        self.check_state(state)
        return self.book.truths()[self._marks[state]]

    def states(self, say):
        """The ascending list of the states where a say holds."""
        check_say(self.book, say)
        return members(self.where_in(self.book.mask(say)))

    def ways(self, deed):
        """The ascending list of the ways of a deed."""
        masks = self._leading[self.book.needed_number(deed)]
        return [(first, last) for first, mask in enumerate(masks) for last in members(mask)]

    def keeps(self, promise):
        """Whether the meaning keeps a promise."""
        if not self.book.has_promise(promise):
            raise BadPromise(0)
        before, deed, behind = promise
        masks = self._leading[self.book.needed_number(deed)]
        wrong = self.where_in(self.book.mask(~behind))
        return not any([masks[first] & wrong for first in members(self.where_in(self.book.mask(before)))])

    def ends(self, flow, state):
        """The ascending list of the states at which runs of a flow end that begin at a state."""
        if not self.book.is_like(flow.book):
            raise UnlikeBooks()
        self.check_state(state)
        return members(self.ended(flow, state))

    def leads(self, flow):
        """The ascending list of the pairs of the first and the last state of runs of a flow."""
        if not self.book.is_like(flow.book):
            raise UnlikeBooks()
        return [(first, last) for first in range(self.size) for last in members(self.ended(flow, first))]

    def where_in(self, mask):
        """The mask of the states whose truths are some of a mask of truths."""
        return mask_of([state for state, rank in enumerate(self._marks) if mask >> rank & 1])

    def ended(self, flow, state):
        """The mask of the states at which runs of a flow end that begin at a state."""
        chart = flow.chart()
        steps = flow.book.steps()
        known = {(0, state): True}
        queue = [(0, state)]
        found = 0
        at = 0
        while at < len(queue):
            place, here = queue[at]
            at += 1
            found = found | (chart.finals[place] >> self._marks[here] & 1) << here
            for number, masks in enumerate(self._leading):
                symbol = self._marks[here] * chart.width + number
                target = chart.nexts[place][symbol]
                let = self.where_in(steps[symbol]) if target >= 0 else 0
                for pair in [(target, there) for there in members(masks[here] & let)]:
                    if pair not in known:
                        known[pair] = True
                        queue.append(pair)
        return found

    def check_state(self, thing):
        """Raises NoState for any object that is no state."""
        if not is_integer(thing) or not 0 <= thing < self.size:
            raise NoState(thing)

    def __add__(self, other):
        if not isinstance(other, Meaning):
            return NotImplemented
        if not self.book == other.book:
            raise UnlikeBooks()
        tests = {name: self.states(Say.test(name)) + [state + self.size for state in other.states(Say.test(name))]
                 for name in self.book.tests()}
        deeds = {deed: self.ways(deed) + [(first + self.size, last + self.size) for first, last in other.ways(deed)]
                 for deed in self.book.deeds()}
        return Meaning(self.book, self.size + other.size, tests, deeds)

    def __eq__(self, other):
        return (isinstance(other, Meaning) and self.book == other.book and self._marks == other._marks
                and self._leading == other._leading)


def check_sets(names, size, tests):
    """Raises BadSet if something is no dict from just some tests to lists of states."""
    if not isinstance(tests, dict):
        raise BadSet(None)
    for name in names:
        if name not in tests or not are_states(tests[name], size):
            raise BadSet(name)
    for key in tests:
        if key not in names:
            raise BadSet(key)


def check_ways(names, size, deeds):
    """Raises BadWays if something is no dict from just some deeds to lists of pairs of states."""
    if not isinstance(deeds, dict):
        raise BadWays(None)
    for name in names:
        if name not in deeds or not are_pairs(deeds[name], size):
            raise BadWays(name)
    for key in deeds:
        if key not in names:
            raise BadWays(key)


def are_states(thing, size):
    """Whether a thing is a list of states, of so many."""
    return is_list(thing) and all([is_integer(state) and 0 <= state < size for state in thing])


def are_pairs(thing, size):
    """Whether a thing is a list of pairs of states, of so many."""
    return is_list(thing) and all([are_states(way, size) and len(way) == 2 for way in thing])
