"""Chances of what comes behind deeds, and how likely and how soon flows that leave no choice end."""

from deedmeanings.chaining import early_chance, end_chances, lowest
from deedmeanings.errors import BadRow, BadWeights, NotSure, UnlikeBooks
from deedmeanings.flows import check_count
from deedmeanings.names import is_integer, is_list, members
from deedmeanings.rows import row_by_numbers
from deedmeanings.says import Say

GREATEST = 100


class Chances:
    """A book and, for each of its symbols, the weights of the truths that may come behind it."""

    def __init__(self, book, weights):
        check_weights(book, weights)
        self.book = book
        self._odds = odds_of(book, weights)

    def of(self, row):
        """The chance of a row: the product of those of its steps."""
        numbers = row_by_numbers(self.book, row)
        if numbers is None:
            raise BadRow(row)
        top = 1
        bottom = 1
        for at in range(0, len(numbers) - 1, 2):
            odds = self._odds[numbers[at] * len(self.book.deeds()) + numbers[at + 1]]
            top = top * sum([weight for last, weight in odds if last == numbers[at + 2]])
            # Where the deed fails nothing is weighed, and the chance is 0.
            bottom = bottom * sum([weight for _, weight in odds]) if odds else bottom
        return lowest(top, bottom)

    def end(self, p, first, last):
        """The chance that who goes by a flow from truths on ends at truths."""
        self.check_flow(p)
        rank = self.book.needed_rank(first)
        end = self.book.needed_rank(last)
        ends, whole, _ = end_chances(p.chart(), self._odds, rank)
        return lowest(ends.get(end, 0), whole)

    def ends(self, p, first):
        """The chance that who goes by a flow from truths on ends at all."""
        self.check_flow(p)
        ends, whole, _ = end_chances(p.chart(), self._odds, self.book.needed_rank(first))
        return lowest(sum([ends[rank] for rank in ends]), whole)

    def early(self, p, first, most):
        """The chance that who goes by a flow from truths on ends with at most so many deeds."""
        self.check_flow(p)
        rank = self.book.needed_rank(first)
        check_count(most)
        return early_chance(p.chart(), self._odds, rank, most)

    def mean(self, p, first):
        """The mean number of deeds until the end, None if the end is not sure."""
        self.check_flow(p)
        ends, whole, deeds = end_chances(p.chart(), self._odds, self.book.needed_rank(first))
        return lowest(deeds, whole) if sum([ends[rank] for rank in ends]) == whole else None

    def check_flow(self, p):
        """Raises UnlikeBooks if a flow is none of the book, NotSure if it leaves a choice."""
        if not p.book == self.book:
            raise UnlikeBooks()
        if not p.is_sure():
            raise NotSure()


def check_weights(book, weights):
    """Raises BadWeights if something is no dict from just the deeds of a book to lists of weights."""
    if not isinstance(weights, dict):
        raise BadWeights(None)
    for deed in book.deeds():
        if deed not in weights or not is_list(weights[deed]):
            raise BadWeights(deed)
        if not all([is_weight(book, one) for one in weights[deed]]):
            raise BadWeights(deed)
    for key in weights:
        if key not in book.deeds():
            raise BadWeights(key)


def is_weight(book, thing):
    """Whether any object is a triple of two says of tests of a book and a number that is not too great."""
    if not is_list(thing) or len(thing) != 3:
        return False
    before, behind, number = thing
    if not isinstance(before, Say) or not isinstance(behind, Say) or not is_integer(number):
        return False
    return 1 <= number <= GREATEST and all([name in book.tests() for name in before.tests() + behind.tests()])


def odds_of(book, weights):
    """The tuple that has for each symbol the pairs (truths, weight) of the truths that come behind it by chance."""
    masks = [[(book.mask(before), book.mask(behind), number) for before, behind, number in weights[deed]]
             for deed in book.deeds()]
    steps = book.steps()
    found = []
    for symbol, let in enumerate(steps):
        rank, deed = divmod(symbol, len(masks))
        held = [(behind, number) for before, behind, number in masks[deed] if before >> rank & 1]
        weighed = [(last, sum([number for behind, number in held if behind >> last & 1])) for last in members(let)]
        found.append(tuple([(last, weight) for last, weight in weighed if weight]))
    return tuple(found)
