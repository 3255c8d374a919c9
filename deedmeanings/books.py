"""Books: tests, deeds, and the steps that their promises let."""

from deedmeanings.errors import BadDeeds, BadPromise, BadTests, BadTruths, NoDeed, UnlikeBooks
from deedmeanings.names import are_names, ascending, is_list, mask_of, members, numbers_of, subsets
from deedmeanings.says import Say

MOST_TESTS = 4
MOST_DEEDS = 5


class Book:
    """Tests and deeds, and which steps (truths, deed, truths) are let.

    Inside, truths are numbered in their order, deeds too. A SYMBOL is truths and a deed that comes
    behind them, as the number truths * deeds + deed. The steps of a book are told by a tuple that has,
    for each symbol, the mask of the truths that may come behind it.
    """

    def __init__(self, tests, deeds, promises=()):
        if not are_names(tests) or len(tests) > MOST_TESTS:
            raise BadTests(tests)
        if not are_names(deeds) or not 1 <= len(deeds) <= MOST_DEEDS or any([name in tests for name in deeds]):
            raise BadDeeds(deeds)
        self._tests = ascending(tests)
        self._deeds = ascending(deeds)
        self._truths = tuple(subsets(self._tests))
        self._ranks = numbers_of(self._truths)
        self._numbers = numbers_of(self._deeds)
        check_promises(self._tests, self._deeds, promises)
        self._steps = steps_by(self._deeds, self._truths, promises)

    def tests(self):
        """The ascending list of the tests."""
        return list(self._tests)

    def deeds(self):
        """The ascending list of the deeds."""
        return list(self._deeds)

    def truths(self):
        """The ascending list of all truths."""
        return list(self._truths)

    def steps(self):
        """The tuple that has the mask of the truths that may come behind each symbol."""
        return self._steps

    def rank(self, thing):
        """The number of truths, None for any object that is no list of unlike tests."""
        if not are_names(thing) or not all([name in self._tests for name in thing]):
            return None
        return self._ranks[ascending(thing)]

    def number(self, thing):
        """The number of a deed, None for any object that is no deed."""
        if not isinstance(thing, str):
            return None
        return self._numbers.get(thing)

    def mask(self, say):
        """The mask of the truths at which a say holds."""
        return mask_where(self._truths, say)

    def where(self, mask):
        """The say of tests of the book that is true at just the truths of a mask."""
        return say_where(self._tests, self._truths, mask)

    def needed_rank(self, thing):
        """The number of truths; raises BadTruths for any object that is no list of unlike tests."""
        rank = self.rank(thing)
        if rank is None:
            raise BadTruths(thing)
        return rank

    def needed_number(self, thing):
        """The number of a deed; raises NoDeed for any object that is no deed."""
        number = self.number(thing)
        if number is None:
            raise NoDeed(thing)
        return number

    def lets(self, ahead, deed, behind):
        """Whether a step is let."""
        symbol = self.needed_rank(ahead) * len(self._deeds) + self.needed_number(deed)
        return self._steps[symbol] >> self.needed_rank(behind) & 1 == 1

    def behind(self, ahead, deed):
        """The ascending list of the truths to which a step may lead."""
        symbol = self.needed_rank(ahead) * len(self._deeds) + self.needed_number(deed)
        return [self._truths[last] for last in members(self._steps[symbol])]

    def ahead(self, deed, behind):
        """The ascending list of the truths from which a step may lead somewhere."""
        masks = self._steps[self.needed_number(deed)::len(self._deeds)]
        last = self.needed_rank(behind)
        return [self._truths[first] for first, mask in enumerate(masks) if mask >> last & 1]

    def more(self, promises):
        """The book with further promises."""
        check_promises(self._tests, self._deeds, promises)
        return Book(self._tests, self._deeds, self.promises() + list(promises))

    def follows(self, promise):
        """Whether each step that is let keeps a promise."""
        if not self.has_promise(promise):
            raise BadPromise(0)
        before, deed, behind = promise
        masks = self._steps[self._numbers[deed]::len(self._deeds)]
        wrong = self.mask(~behind)
        return not any([masks[first] & wrong for first in members(self.mask(before))])

    def has_promise(self, thing):
        """Whether any object is a promise of tests and deeds of the book, be it kept or not."""
        return is_promise(self._tests, self._deeds, thing)

    def promises(self):
        """The list of the promises by which the book tells itself."""
        return promises_by(self._tests, self._deeds, self._truths, self._steps)

    def turned(self):
        """The book that lets each step read backwards."""
        width = len(self._deeds)
        steps = []
        for last in range(len(self._truths)):
            for number in range(width):
                masks = self._steps[number::width]
                steps.append(mask_of([first for first, mask in enumerate(masks) if mask >> last & 1]))
        return Book(self._tests, self._deeds, promises_by(self._tests, self._deeds, self._truths, steps))

    def is_like(self, other):
        """Whether another book has the same tests and deeds."""
        return self._tests == other._tests and self._deeds == other._deeds

    def __and__(self, other):
        if not isinstance(other, Book):
            return NotImplemented
        if not self.is_like(other):
            raise UnlikeBooks()
        return Book(self._tests, self._deeds, self.promises() + other.promises())

    def __or__(self, other):
        if not isinstance(other, Book):
            return NotImplemented
        if not self.is_like(other):
            raise UnlikeBooks()
        steps = [mine | yours for mine, yours in zip(self._steps, other._steps)]
        return Book(self._tests, self._deeds, promises_by(self._tests, self._deeds, self._truths, steps))

    def __le__(self, other):
        if not isinstance(other, Book):
            return NotImplemented
        if not self.is_like(other):
            raise UnlikeBooks()
        return not any([mine & ~yours for mine, yours in zip(self._steps, other._steps)])

    def __lt__(self, other):
        if not isinstance(other, Book):
            return NotImplemented
        return self <= other and not self == other

    def __eq__(self, other):
        return (isinstance(other, Book) and self._tests == other._tests and self._deeds == other._deeds
                and self._steps == other._steps)


def is_promise(tests, deeds, thing):
    """Whether a thing is a triple of a say of tests of a book, a deed of it and a say likewise."""
    if not is_list(thing) or len(thing) != 3:
        return False
    before, deed, behind = thing
    if not isinstance(before, Say) or not isinstance(deed, str) or not isinstance(behind, Say):
        return False
    return deed in deeds and all([name in tests for name in before.tests() + behind.tests()])


def check_promises(tests, deeds, promises):
    """Raises BadPromise for the first thing that is no promise."""
    if not is_list(promises):
        raise BadPromise(0)
    for index, promise in enumerate(promises):
        if not is_promise(tests, deeds, promise):
            raise BadPromise(index)


def mask_where(truths, say):
    """The mask of the truths, of a tuple of them, at which a say holds."""
    return mask_of([rank for rank, true in enumerate(truths) if say.holds(true)])


def say_where(tests, truths, mask):
    """The say of tests that is true at just the truths of a mask."""
    indexes = [mask_of([place for place, name in enumerate(tests) if name in truths[rank]])
               for rank in members(mask)]
    return Say(tests, mask_of(indexes))


def steps_by(deeds, truths, promises):
    """The tuple of the masks of the truths that promises let come behind each symbol."""
    width = len(deeds)
    numbers = numbers_of(deeds)
    steps = [(1 << len(truths)) - 1 for _ in range(width * len(truths))]
    for before, deed, behind in promises:
        kept = mask_where(truths, behind)
        for first in members(mask_where(truths, before)):
            symbol = first * width + numbers[deed]
            steps[symbol] = steps[symbol] & kept
    return tuple(steps)


def promises_by(tests, deeds, truths, steps):
    """The promises by which just the steps of a book are let."""
    found = []
    for number, deed in enumerate(deeds):
        masks = list(steps[number::len(deeds)])
        told = [(1 << len(truths)) - 1]
        for mask in masks:
            if mask not in told:
                told.append(mask)
                alike = mask_of([first for first, other in enumerate(masks) if other == mask])
                found.append((say_where(tests, truths, alike), deed, say_where(tests, truths, mask)))
    return found
