"""Readers: what reads just the rows of a flow, with as few places as can be.

The chart of a flow takes rows without regard to the steps that the book lets. The places of the reader are
the kinds of places of the chart with the truths that may stand there.
"""

from deedmeanings.charts import Chart, has_row
from deedmeanings.errors import NoPlace
from deedmeanings.names import is_integer, members
from deedmeanings.points import Kinds
from deedmeanings.rows import numbers_by_turns


class Reader:
    """The reader of a flow: its chart here has the places of the reader, and takes just the rows."""

    def __init__(self, flow):
        self.book = flow.book
        self._told = flow
        chart, ways = least_chart(flow.chart(), flow.book.steps())
        self._chart = chart
        self._ways = tuple([way_told(flow.book, symbols) for symbols in ways])

    def chart(self):
        """The chart with the places of the reader."""
        return self._chart

    def step(self, place, truths, deed):
        """The place to which the reader goes on, None if there is none."""
        self.check_place(place)
        symbol = self.book.needed_rank(truths) * self._chart.width + self.book.needed_number(deed)
        target = self._chart.nexts[place][symbol]
        return target if target >= 0 else None

    def ends(self, place):
        """The ascending list of the truths at which a row may end at a place."""
        self.check_place(place)
        truths = self.book.truths()
        return [truths[rank] for rank in members(self._chart.finals[place])]

    def way(self, place):
        """The first tuple of truths and deeds by which a place is come to."""
        self.check_place(place)
        return self._ways[place]

    def reads(self, row):
        """Whether any object is a row that is read."""
        numbers = numbers_by_turns(self.book, row)
        return numbers is not None and has_row(self._chart, numbers)

    def flow(self):
        """The flow whose rows are read."""
        return self._told

    def check_place(self, thing):
        """Raises NoPlace for any object that is no place."""
        if not is_integer(thing) or not 0 <= thing < len(self._ways):
            raise NoPlace(thing)

    def __len__(self):
        return len(self._ways)

    def __eq__(self, other):
        return isinstance(other, Reader) and self._told == other._told


def reader_of(flow):
    """The reader of a flow."""
    return Reader(flow)


def way_told(book, symbols):
    """The tuple of truths and deeds that is told by symbols."""
    truths = book.truths()
    deeds = book.deeds()
    way = []
    for symbol in symbols:
        way.extend([truths[symbol // len(deeds)], deeds[symbol % len(deeds)]])
    return tuple(way)


def least_chart(chart, steps):
    """A pair: the chart with the places of the reader, in order of their ways, and these ways, told by symbols."""
    kinds = Kinds(chart, steps)
    order = [0]
    numbers = {0: 0}
    ways = [()]
    nexts = []
    while len(nexts) < len(order):
        place, truths = kinds.pairs[kinds.examples[order[len(nexts)]]]
        row = []
        for symbol, pair in enumerate(kinds.targets[place]):
            if pair < 0 or not truths >> (symbol // chart.width) & 1:
                row.append(-1)
                continue
            if kinds.kind_of[pair] not in numbers:
                numbers[kinds.kind_of[pair]] = len(order)
                order.append(kinds.kind_of[pair])
                ways.append(ways[len(nexts)] + (symbol,))
            row.append(numbers[kinds.kind_of[pair]])
        nexts.append(row)
    examples = [kinds.pairs[kinds.examples[kind]] for kind in order]
    return Chart(chart.width, [chart.finals[place] & truths for place, truths in examples], nexts), ways
