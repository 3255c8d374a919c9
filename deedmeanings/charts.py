"""Charts: machines that go on to at most one place by each symbol, and what can be told by them.

nexts[place][symbol] is the place to which a chart goes on, -1 if there is none. The charts that flows keep
are trimmed: each of their moves and ends is made use of by some row of the book. The book is passed as
its steps: the masks of the truths that may come behind each symbol.

No function here changes what it is passed.
"""

from deedmeanings.machines import Machine, come_masks, live_masks
from deedmeanings.names import members


class Chart:
    """Places, the truths at which rows may end there, and where each symbol leads."""

    def __init__(self, width, finals, nexts):
        self.width = width
        self.finals = tuple(finals)
        self.nexts = tuple([tuple(row) for row in nexts])


def numbered(keys):
    """A pair: for each key its number, equal ones having the same; for each number the first place of its key."""
    numbers = {}
    firsts = []
    found = []
    for place, key in enumerate(keys):
        if key not in numbers:
            numbers[key] = len(firsts)
            firsts.append(place)
        found.append(numbers[key])
    return found, firsts


def chart_edges(chart, steps):
    """For each place the list of its moves: symbol, the bit of its truths, what may come behind, the place."""
    return [[(symbol, 1 << (symbol // chart.width), steps[symbol], (target,))
             for symbol, target in enumerate(row) if target >= 0] for row in chart.nexts]


def first_truths(chart, steps, mask):
    """The mask of the truths with which rows of a chart begin that end with truths of a mask."""
    return live_masks([ends & mask for ends in chart.finals], chart_edges(chart, steps))[0]


def last_truths(chart, steps, mask):
    """The mask of the truths with which rows of a chart end that begin with truths of a mask."""
    found = 0
    for come, ends in zip(come_masks(mask, chart_edges(chart, steps)), chart.finals):
        found = found | come & ends
    return found


def machine_of(chart):
    """The machine that goes on as a chart does."""
    bits = [1 << place for place in range(len(chart.finals))] + [0]
    return Machine(chart.width, chart.finals, [[bits[target] for target in row] for row in chart.nexts])


def opposite(chart):
    """The chart of all rows that are none of a chart."""
    size = len(chart.finals)
    everything = (1 << (len(chart.nexts[0]) // chart.width)) - 1
    # What the chart does not go on with leads to a last place at which all is taken.
    nexts = [[target if target >= 0 else size for target in row] for row in chart.nexts]
    finals = [everything ^ mask for mask in chart.finals] + [everything]
    return Chart(chart.width, finals, nexts + [[size] * len(chart.nexts[0])])


def is_within(one, other, steps):
    """Whether each row of a chart that is let by steps is a row of another one.

    The steps may be those of a book that is stricter than that of the charts.
    """
    everything = (1 << (len(steps) // one.width)) - 1
    # What stands behind the last place is found at -1: nothing ends and nothing goes on there.
    finals = list(other.finals) + [0]
    nexts = list(other.nexts) + [[-1] * len(steps)]
    come = {(0, 0): everything}
    queue = [(0, 0, everything)]
    at = 0
    while at < len(queue):
        mine, yours, truths = queue[at]
        at += 1
        if one.finals[mine] & truths & ~finals[yours]:
            return False
        for symbol, target in enumerate(one.nexts[mine]):
            pair = (target, nexts[yours][symbol])
            if target >= 0 and truths >> (symbol // one.width) & 1 and steps[symbol] & ~come.get(pair, 0):
                queue.append(pair + (steps[symbol] & ~come.get(pair, 0),))
                come[pair] = come.get(pair, 0) | steps[symbol]
    return True


def has_rows(chart):
    """Whether a trimmed chart has rows."""
    return chart.finals[0] != 0 or any([target >= 0 for target in chart.nexts[0]])


def has_row(chart, numbers):
    """Whether a row of the book, told by numbers, is a row of a chart."""
    place = 0
    for at in range(0, len(numbers) - 1, 2):
        place = chart.nexts[place][numbers[at] * chart.width + numbers[at + 1]]
        if place < 0:
            return False
    return chart.finals[place] >> numbers[-1] & 1 == 1


def one_more(chart, steps, masks):
    """For each place the mask of the truths from which one deed leads to a place with truths of its mask."""
    found = []
    for row in chart.nexts:
        mask = 0
        for symbol, target in enumerate(row):
            if target >= 0 and masks[target] & steps[symbol]:
                mask = mask | 1 << (symbol // chart.width)
        found.append(mask)
    return found


def goes_on_for_ever(chart, steps):
    """Whether rows of a trimmed chart can go on for ever: then they have infinitely many lengths."""
    masks = [(1 << (len(steps) // chart.width)) - 1 for _ in chart.finals]
    fewer = one_more(chart, steps, masks)
    while fewer != masks:
        masks = fewer
        fewer = one_more(chart, steps, masks)
    return masks[0] != 0


def leaves_no_choice(chart):
    """Whether a trimmed chart leaves nowhere a choice between an end and deeds."""
    width = chart.width
    for row, mask in zip(chart.nexts, chart.finals):
        for truths in range(len(row) // width):
            ways = [deed for deed in range(width) if row[truths * width + deed] >= 0]
            if len(ways) + (mask >> truths & 1) > 1:
                return False
    return True


def layers_of(chart, steps, length):
    """For each number of deeds up to a length, and each place, the truths from which so many lead to an end."""
    layers = [list(chart.finals)]
    for _ in range(length):
        layers.append(one_more(chart, steps, layers[-1]))
    return layers


def shortest(chart, steps):
    """The length of the shortest rows of a trimmed chart, None if it has no rows."""
    if not has_rows(chart):
        return None
    length = 0
    masks = list(chart.finals)
    while not masks[0]:
        masks = one_more(chart, steps, masks)
        length += 1
    return length


def first_row(chart, steps, length):
    """The first row of a length that a chart has, told by numbers."""
    layers = layers_of(chart, steps, length)
    place = 0
    row = [members(layers[length][0])[0]]
    for left in reversed(range(length)):
        symbol = row[-1] * chart.width
        while chart.nexts[place][symbol] < 0 or not steps[symbol] & layers[left][chart.nexts[place][symbol]]:
            symbol += 1
        place = chart.nexts[place][symbol]
        row = row + [symbol % chart.width, members(steps[symbol] & layers[left][place])[0]]
    return row


def all_rows(chart, steps, length):
    """The list of all rows of a length, in order, told by numbers."""
    layers = layers_of(chart, steps, length)
    begun = [((first,), 0) for first in members(layers[length][0])]
    for left in reversed(range(length)):
        longer = []
        for row, place in begun:
            for deed in range(chart.width):
                symbol = row[-1] * chart.width + deed
                target = chart.nexts[place][symbol]
                if target >= 0:
                    longer.extend([(row + (deed, last), target)
                                   for last in members(steps[symbol] & layers[left][target])])
        begun = longer
    return [row for row, _ in begun]
