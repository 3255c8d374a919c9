"""Counting the rows of flows, and finding them by their places in order.

A layer tells for each spot how many rows, all of one length, begin there. Rows are told by numbers.

No function here changes what it is passed.
"""


def layers_of_counts(spots, longest):
    """The layers for all lengths up to one."""
    ways = [end for end, _ in spots.leads_on]
    layers = [ways]
    for _ in range(longest):
        sums = [sum([ways[spot] for spot in head]) for head in spots.heads]
        ways = [sum([sums[pair] for _, pair in onward]) for _, onward in spots.leads_on]
        layers.append(ways)
    return layers


def counted(spots, layer):
    """The number of all rows that a layer tells."""
    return sum([layer[spot] for spot in spots.starts])


def by_truths(spots, layer, place, mask):
    """The list of pairs (truths, number of rows) of the truths of a mask, at a place."""
    return [(rank, layer[spot]) for rank, spot in spots.spots_of(place, mask)]


def by_deeds(spots, layer, place, rank):
    """The list of pairs (deed, number of rows behind it), at a place with truths."""
    return [(deed, sum([number for _, number in by_truths(spots, layer, target, mask)]))
            for deed, _, target, mask in spots.ways_from(place, rank)]


def led_to(spots, place, rank, deed):
    """A pair: the place to which a deed leads, and the mask of the truths that may come behind it."""
    symbol = rank * spots.chart_told.width + deed
    return spots.chart_told.nexts[place][symbol], spots.behind_symbols[symbol]


def all_ranks(spots):
    """The mask of all truths."""
    return (1 << len(spots.found_at[0])) - 1


def row_standing(spots, layers, length, index):
    """The row that stands at a place in the ascending list of the rows of a length."""
    place = 0
    rank, index = chosen(by_truths(spots, layers[length], place, all_ranks(spots)), index)
    row = [rank]
    for left in reversed(range(length)):
        deed, index = chosen(by_deeds(spots, layers[left], place, rank), index)
        place, mask = led_to(spots, place, rank, deed)
        rank, index = chosen(by_truths(spots, layers[left], place, mask), index)
        row.extend([deed, rank])
    return row


def chosen(choices, index):
    """A pair: the choice with which the row at a place goes on, and its place among the rows with this choice."""
    for choice, number in choices:
        if index < number:
            return choice, index
        index = index - number
    return None, index


def place_standing(spots, layers, row):
    """The place of a row in the ascending list of the rows of its length."""
    place = 0
    length = len(row) // 2
    index = ahead_of(by_truths(spots, layers[length], place, all_ranks(spots)), row[0])
    for at in range(1, len(row), 2):
        layer = layers[length - at // 2 - 1]
        index = index + ahead_of(by_deeds(spots, layer, place, row[at - 1]), row[at])
        place, mask = led_to(spots, place, row[at - 1], row[at])
        index = index + ahead_of(by_truths(spots, layer, place, mask), row[at + 1])
    return index


def ahead_of(choices, own):
    """The number of all rows with lesser choices than their own."""
    return sum([number for choice, number in choices if choice < own])
