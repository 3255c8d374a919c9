"""Points of charts, and what can be read from them.

A POINT is a place of a chart with truths that may stand there, a PAIR a place with the mask of all truths
that may stand there behind some symbol. Pairs are of one KIND if the same can be read from them.

No function here changes what it is passed.
"""

from deedmeanings.charts import numbered
from deedmeanings.names import numbers_of


class Kinds:
    """The pairs of a chart and their kinds.

    pairs has the pairs, that of place 0 with all truths first, and targets, for each place and symbol, the
    number of the pair to which is gone on, -1 if there is none. kind_of has for each pair the number of its
    kind, examples for each kind the number of its first pair, and readings the tuple that has, for each
    truths, the number of what can be read with them, 0 if nothing can.
    """

    def __init__(self, chart, steps):
        pairs = pairs_reached(chart, steps)
        numbers = numbers_of(pairs)
        targets = [[numbers.get(pair, -1) for pair in zip(row, steps)] for row in chart.nexts]
        kind_of = [0 for _ in pairs]
        examples = [0]
        before = 0
        while before < len(examples):
            before = len(examples)
            points = point_classes(chart, targets, kind_of)
            readings = [pair_key(points, len(steps) // chart.width, pair) for pair in pairs]
            kind_of, examples = numbered(readings)
        self.pairs = pairs
        self.targets = targets
        self.kind_of = kind_of
        self.examples = examples
        self.readings = [readings[example] for example in examples]


def pairs_reached(chart, steps):
    """The list of the pairs of a place and the truths that may stand there; the place 0 with all is first."""
    start = (0, (1 << (len(steps) // chart.width)) - 1)
    known = {start: True}
    pairs = [start]
    at = 0
    while at < len(pairs):
        place, truths = pairs[at]
        at += 1
        for symbol, target in enumerate(chart.nexts[place]):
            pair = (target, steps[symbol])
            if target >= 0 and truths >> (symbol // chart.width) & 1 and pair not in known:
                known[pair] = True
                pairs.append(pair)
    return pairs


def point_classes(chart, targets, kind_of):
    """For each point a number, behind a first one, 0, which is that of points at which nothing can be read."""
    width = chart.width
    told = list(kind_of) + [-1]
    keys = [(0,) + (-1,) * width]
    for row, ends in zip(targets, chart.finals):
        for rank in range(len(row) // width):
            behind = tuple([told[target] for target in row[rank * width:(rank + 1) * width]])
            keys.append((ends >> rank & 1,) + behind)
    found, _ = numbered(keys)
    return found


def pair_key(points, count, pair):
    """The tuple of the numbers of the points of a pair, 0 for truths that may not stand there."""
    place, truths = pair
    start = place * count + 1
    return tuple([points[start + rank] if truths >> rank & 1 else 0 for rank in range(count)])
