"""Gaps: the loosest flow that may stand between others so that all together is within a flow.

A row is a bad one if there are rows ahead of it and behind it with which it is no row of the whole. It is
told by a machine that begins at all places at once of the chart of what the whole has not, to which rows
ahead lead.
"""

from deedmeanings.charts import Chart, chart_edges, opposite
from deedmeanings.flows import Flow, check_books
from deedmeanings.machines import Machine, come_masks, live_masks


def loosest(ahead, whole, behind):
    """The flow of all rows that fit between all rows ahead and behind in the whole."""
    check_books(ahead, whole)
    check_books(whole, behind)
    lacking = opposite(whole.chart())
    steps = whole.book.steps()
    begins = begin_masks(ahead.chart(), lacking, steps)
    ends = end_masks(behind.chart(), lacking, steps)
    return ~Flow(whole.book, bad_rows(lacking, begins, ends))


def loosest_end(ahead, whole):
    """The flow of all rows that fit behind all rows ahead in the whole."""
    return loosest(ahead, whole, Flow.skip(whole.book))


def loosest_start(whole, behind):
    """The flow of all rows that fit ahead of all rows behind in the whole."""
    return loosest(Flow.skip(whole.book), whole, behind)


def paired(one, other, starts):
    """A pair: the list of the pairs of places come to from some pairs, and the chart of what both take."""
    numbers = {}
    for pair in starts:
        numbers[pair] = len(numbers)
    pairs = list(starts)
    nexts = []
    while len(nexts) < len(pairs):
        mine, yours = pairs[len(nexts)]
        row = []
        for pair in list(zip(one.nexts[mine], other.nexts[yours])):
            if -1 not in pair and pair not in numbers:
                numbers[pair] = len(pairs)
                pairs.append(pair)
            row.append(numbers.get(pair, -1))
        nexts.append(row)
    return pairs, Chart(one.width, [one.finals[mine] & other.finals[yours] for mine, yours in pairs], nexts)


def begin_masks(ahead, lacking, steps):
    """For each place of a chart the mask of the truths with which rows of another chart come there and end."""
    pairs, both = paired(ahead, lacking, [(0, 0)])
    come = come_masks((1 << (len(steps) // ahead.width)) - 1, chart_edges(both, steps))
    found = [0 for _ in lacking.finals]
    for (mine, yours), mask in zip(pairs, come):
        found[yours] = found[yours] | mask & ahead.finals[mine]
    return found


def end_masks(behind, lacking, steps):
    """For each place of a chart the mask of the truths with which rows of another one lead from there to an end."""
    pairs, both = paired(behind, lacking, [(0, place) for place in range(len(lacking.finals))])
    live = live_masks(both.finals, chart_edges(both, steps))
    return live[:len(lacking.finals)]


def bad_rows(lacking, begins, ends):
    """The machine of the rows that lead from where rows may begin to where they may end."""
    start = []
    for symbol in range(len(lacking.nexts[0])):
        mask = 0
        for row, truths in zip(lacking.nexts, begins):
            if truths >> (symbol // lacking.width) & 1:
                mask = mask | 2 << row[symbol]
        start.append(mask)
    both = 0
    for mine, yours in zip(begins, ends):
        both = both | mine & yours
    moves = [[2 << target for target in row] for row in lacking.nexts]
    return Machine(lacking.width, [both] + ends, [start] + moves)
