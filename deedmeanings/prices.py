"""Prices of deeds, and what rows of flows cost."""

from deedmeanings.errors import BadCosts, BadPurse, BadRow, UnlikeBooks
from deedmeanings.flows import Flow
from deedmeanings.machines import Machine
from deedmeanings.names import is_integer, is_list, members
from deedmeanings.pricing import first_cheapest, least_price, least_purse
from deedmeanings.rows import row_by_numbers, row_told
from deedmeanings.says import Say
from deedmeanings.spots import Spots

GREATEST = 50
LARGEST_PURSE = 12


class Prices:
    """A book and the price of each of its symbols: truths, and a deed that is done there."""

    def __init__(self, book, costs):
        check_costs(book, costs)
        self.book = book
        self._worth = worth_of(book, costs)

    def of(self, row):
        """The price of a row."""
        numbers = row_by_numbers(self.book, row)
        if numbers is None:
            raise BadRow(row)
        width = len(self.book.deeds())
        return sum([self._worth[numbers[at - 1] * width + numbers[at]] for at in range(1, len(numbers), 2)])

    def least(self, p):
        """The least price of a row of a flow, None if there is none."""
        return least_price(self.spots_with(p, 1))

    def greatest(self, p):
        """The greatest price of a row of a flow, None if there is none."""
        least = least_price(self.spots_with(p, -1))
        return None if least is None else -least

    def cheapest(self, p):
        """The first row of a flow with the least price, None if there is none."""
        return self.best_row(p, 1)

    def dearest(self, p):
        """The first row of a flow with the greatest price, None if there is none."""
        return self.best_row(p, -1)

    def some_purse(self, p):
        """The least purse from which some row of a flow can be paid, None if there is none."""
        return least_purse(self.spots_with(p, 1))

    def every_purse(self, p):
        """The least purse from which each row of a flow can be paid, None if there is none."""
        self.check_flow(p)
        if not p:
            return 0
        # The dearest beginning of a row has to be paid.
        return self.greatest(p.begun())

    def paid(self, p, purse, cap):
        """The flow of the rows of a flow that can be paid from a purse that holds at most a cap."""
        self.check_flow(p)
        for thing in (purse, cap):
            if not is_integer(thing) or not 0 <= thing <= LARGEST_PURSE:
                raise BadPurse(thing)
        return Flow(self.book, paid_machine(p.machine(), self._worth, purse, cap))

    def check_flow(self, p):
        """Raises UnlikeBooks if a flow is none of the book."""
        if not p.book == self.book:
            raise UnlikeBooks()

    def spots_with(self, p, sign):
        """The spots of a flow with the prices, or with all that is paid told as earned."""
        self.check_flow(p)
        return Spots(p.chart(), self.book.steps(), [sign * price for price in self._worth])

    def best_row(self, p, sign):
        """The first row of a flow with the least price, or the greatest, None if there is none."""
        spots = self.spots_with(p, sign)
        price = least_price(spots)
        return None if price is None else row_told(self.book, first_cheapest(spots, price))


def check_costs(book, costs):
    """Raises BadCosts if something is no dict from just the deeds of a book to lists of costs."""
    if not isinstance(costs, dict):
        raise BadCosts(None)
    for deed in book.deeds():
        if deed not in costs or not is_list(costs[deed]) or not all([is_cost(book, one) for one in costs[deed]]):
            raise BadCosts(deed)
    for key in costs:
        if key not in book.deeds():
            raise BadCosts(key)


def is_cost(book, thing):
    """Whether any object is a pair of a say of tests of a book and a number that is not too great."""
    if not is_list(thing) or len(thing) != 2:
        return False
    say, number = thing
    if not isinstance(say, Say) or not is_integer(number) or not -GREATEST <= number <= GREATEST:
        return False
    return all([name in book.tests() for name in say.tests()])


def worth_of(book, costs):
    """The tuple that has the price of each symbol."""
    masks = [[(book.mask(say), number) for say, number in costs[deed]] for deed in book.deeds()]
    return tuple([sum([number for mask, number in some if mask >> rank & 1])
                  for rank in range(len(book.truths())) for some in masks])


def paid_machine(machine, worth, purse, cap):
    """The machine of the rows that can be paid: its places are those of a machine, with amounts."""
    start = (0, cap if purse > cap else purse)
    numbers = {start: 0}
    heads = [start]
    moves = []
    while len(moves) < len(heads):
        place, amount = heads[len(moves)]
        row = []
        for targets, price in zip(machine.moves[place], worth):
            left = cap if amount - price > cap else amount - price
            mask = 0
            for head in [(target, left) for target in members(targets) if left >= 0]:
                if head not in numbers:
                    numbers[head] = len(heads)
                    heads.append(head)
                mask = mask | 1 << numbers[head]
            row.append(mask)
        moves.append(row)
    return Machine(machine.width, [machine.finals[place] for place, _ in heads], moves)
