"""Deciding: the charts of machines, with few places.

The places of a chart are at first the sets of places to which a machine comes by the same beginnings of
rows. Then some of them are made one: those of which the same can be read, and those that do not differ
at the truths that may stand at both.

No function here changes what it is passed.
"""

from deedmeanings.charts import Chart, numbered
from deedmeanings.machines import stand_ins
from deedmeanings.names import members
from deedmeanings.points import Kinds

# So many sets of places, and so many places, are few.
FEW_SETS = 3000
FEW_PLACES = 10


def chart_of(machine, steps):
    """The trimmed chart, with few places, of a trimmed machine."""
    chart = decided(machine, steps, [0 for _ in machine.finals], FEW_SETS)
    if chart is None:
        # Only where there are many sets it takes less time to look first for what may be left out of them.
        chart = decided(machine, steps, stand_ins(machine), None)
    few = shortened(chart)
    # What is made of a chart with few places takes little time as it is.
    return fitted(few, steps) if len(few.finals) > FEW_PLACES else few


def decided(machine, steps, others, most):
    """The chart whose places are the sets of places to which a machine comes by the same beginnings of rows.

    Places for which others stand in are left out of sets. If there are more sets than are the most, None is
    returned; the most may be None, too. If the machine is trimmed, the chart is so, too.
    """
    come = {1: (1 << (len(steps) // machine.width)) - 1}
    queue = [(1, come[1])]
    shorter = {0: 0}
    targets = {}
    at = 0
    while at < len(queue):
        if most is not None and len(come) > most:
            return None
        places, truths = queue[at]
        at += 1
        rows = [machine.moves[place] for place in members(places)]
        for symbol in [rank * machine.width + deed for rank in members(truths) for deed in range(machine.width)]:
            mask = 0
            for row in rows:
                mask = mask | row[symbol]
            if mask not in shorter:
                shorter[mask] = without_idle(mask, others)
            mask = shorter[mask]
            targets[(places, symbol)] = mask
            if mask and steps[symbol] & ~come.get(mask, 0):
                queue.append((mask, steps[symbol] & ~come.get(mask, 0)))
                come[mask] = come.get(mask, 0) | steps[symbol]
    numbers = dict([(0, -1)] + [(found, number) for number, found in enumerate(come)])
    nexts = [[numbers[targets.get((found, column), 0)] for column in range(len(steps))] for found in come]
    return Chart(machine.width, [ends_at(machine, found) & come[found] for found in come], nexts)


def without_idle(places, others):
    """The mask of places but for those for which others, told for each place, that are left in it stand in."""
    left = places
    for place in members(places):
        if left & others[place] & ~(1 << place):
            left = left ^ 1 << place
    return left


def ends_at(machine, places):
    """The mask of the truths at which a row may end at some of the places of a mask."""
    ends = 0
    for place in members(places):
        ends = ends | machine.finals[place]
    return ends


def shortened(chart):
    """The chart with places of which the same can be read made one."""
    blocks = numbered([(mask,) for mask in chart.finals])
    before = 0
    while before < len(blocks[1]):
        before = len(blocks[1])
        # What stands behind the last place is found at -1, which tells of no place.
        told = blocks[0] + [-1]
        blocks = numbered([(told[place],) + tuple([told[target] for target in row])
                           for place, row in enumerate(chart.nexts)])
    told = blocks[0] + [-1]
    nexts = [[told[target] for target in chart.nexts[place]] for place in blocks[1]]
    return Chart(chart.width, [chart.finals[place] for place in blocks[1]], nexts)


def fitted(chart, steps):
    """The chart with places made one that do not differ at the truths that may stand at both."""
    kinds = Kinds(chart, steps)
    homes = homes_of(kinds, len(steps) // chart.width)
    finals = {}
    leads = {}
    for home, example in zip(homes, kinds.examples):
        place, truths = kinds.pairs[example]
        finals[home] = finals.get(home, 0) | chart.finals[place] & truths
        for symbol, pair in enumerate(kinds.targets[place]):
            if pair >= 0 and truths >> (symbol // chart.width) & 1:
                leads[(home, symbol)] = homes[kinds.kind_of[pair]]
    many = len(finals)
    if many >= len(chart.finals):
        return chart
    nexts = [[leads.get((home, symbol), -1) for symbol in range(len(steps))] for home in range(many)]
    return Chart(chart.width, [finals[home] for home in range(many)], nexts)


def homes_of(kinds, count):
    """For each kind of pairs the number of the place that it comes to be: some may share one.

    Each kind, those with more truths first, takes the first home at which nothing else is read with its
    truths. Homes are told by bits of masks.
    """
    masks = [0 for _ in kinds.examples]
    for kind, pair in zip(kinds.kind_of, kinds.pairs):
        masks[kind] = masks[kind] | pair[1]
    standing = {}
    taken = {}
    homes = [0 for _ in masks]
    many = 0
    for kind in larger_first(masks, count):
        fits = (1 << many) - 1
        for point in [(truths, kinds.readings[kind][truths]) for truths in members(masks[kind])]:
            fits = fits & (taken.get(point, 0) | ~standing.get(point[0], 0))
        home = fits & -fits if fits else 1 << many
        many = many if fits else many + 1
        for point in [(truths, kinds.readings[kind][truths]) for truths in members(masks[kind])]:
            standing[point[0]] = standing.get(point[0], 0) | home
            taken[point] = taken.get(point, 0) | home
        homes[kind] = home.bit_length() - 1
    return homes


def larger_first(masks, count):
    """The places of masks of at most so many numbers in a list, those of larger ones first."""
    codes = sorted([int((count - len(members(mask))) * len(masks) + place) for place, mask in enumerate(masks)])
    return [code % len(masks) for code in codes]
