"""Readers: what reads just the rows of a flow, with as few places as can be.

The chart of a flow takes rows without regard to the steps that the book lets. A place of the reader is
a place of the chart with the truths that may stand there, and those of which the same can be read on
are one. A POINT is a place of the chart with one of these truths.
"""

from deedmeanings.charts import Chart, has_row, numbered
from deedmeanings.errors import NoPlace
from deedmeanings.names import is_integer, members, numbers_of
from deedmeanings.rows import numbers_by_turns


class Reader:
    """The reader of a flow: its chart here has the places of the reader, and takes just the rows."""

    def __init__(self, flow):
        self.book = flow.book
        self._told = flow
        chart, ways = least_chart(flow.chart(), flow.book.steps())
        self._chart = chart
        self._ways = tuple([way_told(flow.book, symbols) for symbols in ways])

    def chart(self):
        """The chart with the places of the reader."""
        return self._chart

    def step(self, place, truths, deed):
        """The place to which the reader goes on, None if there is none."""
        self.check_place(place)
        symbol = self.book.needed_rank(truths) * self._chart.width + self.book.needed_number(deed)
        target = self._chart.nexts[place][symbol]
        return target if target >= 0 else None

    def ends(self, place):
        """The ascending list of the truths at which a row may end at a place."""
        self.check_place(place)
        truths = self.book.truths()
        return [truths[rank] for rank in members(self._chart.finals[place])]

    def way(self, place):
        """The first tuple of truths and deeds by which a place is come to."""
        self.check_place(place)
        return self._ways[place]

    def reads(self, row):
        """Whether any object is a row that is read."""
        numbers = numbers_by_turns(self.book, row)
        return numbers is not None and has_row(self._chart, numbers)

    def flow(self):
        """The flow whose rows are read."""
        return self._told

    def check_place(self, thing):
        """Raises NoPlace for any object that is no place."""
        if not is_integer(thing) or not 0 <= thing < len(self._ways):
            raise NoPlace(thing)

    def __len__(self):
        return len(self._ways)

    def __eq__(self, other):
        return isinstance(other, Reader) and self._told == other._told


def reader_of(flow):
    """The reader of a flow."""
    return Reader(flow)


def way_told(book, symbols):
    """The tuple of truths and deeds that is told by symbols."""
    truths = book.truths()
    deeds = book.deeds()
    way = []
    for symbol in symbols:
        way.extend([truths[symbol // len(deeds)], deeds[symbol % len(deeds)]])
    return tuple(way)


def least_chart(chart, steps):
    """A pair: the chart with the places of the reader, in order, and the list of their ways, told by symbols."""
    pairs = pairs_reached(chart, steps)
    numbers = numbers_of(pairs)
    # Where no step of the chart leads on, or none to truths that may stand there, -1 tells of no pair.
    targets = [[numbers.get((target, mask), -1) for target, mask in zip(row, steps)] for row in chart.nexts]
    classes = [0] * len(pairs)
    firsts = [0]
    before = 0
    while before < len(firsts):
        before = len(firsts)
        points = point_classes(chart, targets, classes)
        classes, firsts = numbered([pair_key(points, len(steps) // chart.width, pair) for pair in pairs])
    return in_order_of_ways(chart, pairs, targets, classes, firsts)


def pairs_reached(chart, steps):
    """The list of the pairs of a place and the truths that may stand there; the place 0 with all is first."""
    start = (0, (1 << (len(steps) // chart.width)) - 1)
    known = {start: True}
    pairs = [start]
    at = 0
    while at < len(pairs):
        place, truths = pairs[at]
        at += 1
        for symbol, target in enumerate(chart.nexts[place]):
            pair = (target, steps[symbol])
            if target >= 0 and truths >> (symbol // chart.width) & 1 and pair not in known:
                known[pair] = True
                pairs.append(pair)
    return pairs


def point_classes(chart, targets, classes):
    """For each point a number, behind a first one, 0, which is that of points at which nothing can be read."""
    width = chart.width
    told = list(classes) + [-1]
    keys = [(0,) + (-1,) * width]
    for row, ends in zip(targets, chart.finals):
        for rank in range(len(row) // width):
            behind = tuple([told[target] for target in row[rank * width:(rank + 1) * width]])
            keys.append((ends >> rank & 1,) + behind)
    found, _ = numbered(keys)
    return found


def pair_key(points, count, pair):
    """The tuple of the numbers of the points of a pair, 0 for truths that may not stand there."""
    place, truths = pair
    start = place * count + 1
    return tuple([points[start + rank] if truths >> rank & 1 else 0 for rank in range(count)])


def in_order_of_ways(chart, pairs, targets, classes, firsts):
    """A pair: the chart whose places are classes of pairs, in the order of their ways, and these ways."""
    order = [classes[0]]
    numbers = {classes[0]: 0}
    ways = [()]
    nexts = []
    while len(nexts) < len(order):
        place, truths = pairs[firsts[order[len(nexts)]]]
        row = []
        for symbol, target in enumerate(targets[place]):
            if target < 0 or not truths >> (symbol // chart.width) & 1:
                row.append(-1)
                continue
            if classes[target] not in numbers:
                numbers[classes[target]] = len(order)
                order.append(classes[target])
                ways.append(ways[len(nexts)] + (symbol,))
            row.append(numbers[classes[target]])
        nexts.append(row)
    ends = [chart.finals[place] & truths for place, truths in [pairs[firsts[block]] for block in order]]
    return Chart(chart.width, ends, nexts), ways
