"""Plans: flows within another one that surely come to their end, whatever truths come behind their deeds.

LAYERS have, for each number of deeds, and each place of a chart, the mask of the truths with which the
need of what leads there is at most this number.
"""

from deedmeanings.charts import Chart, chart_edges, is_within, leaves_no_choice, machine_of
from deedmeanings.flows import Flow, check_books, check_say
from deedmeanings.machines import live_masks
from deedmeanings.names import is_integer, is_list, members
from deedmeanings.readers import reader_of


def sure_from(w):
    """The say that is true at just the truths from which there is a plan of w."""
    return w.book.where(layers_of_needs(w.chart(), w.book.steps())[-1][0])


def turns_needed(w, truths):
    """The most deeds that a best plan of w does from truths, None if there is none."""
    rank = w.book.needed_rank(truths)
    return need_at(layers_of_needs(w.chart(), w.book.steps()), 0, rank)


def best_plan(w):
    """The flow of the rows that a best plan of w does."""
    chart = w.chart()
    steps = w.book.steps()
    layers = layers_of_needs(chart, steps)
    nexts = []
    for place in range(len(chart.finals)):
        row = [-1 for _ in steps]
        for rank in range(len(steps) // chart.width):
            need = need_at(layers, place, rank)
            if need:
                symbol = fit_symbols(chart, steps, layers[need - 1], place, rank)[0]
                row[symbol] = chart.nexts[place][symbol]
        nexts.append(row)
    return Flow(w.book, machine_of(Chart(chart.width, chart.finals, nexts)))


def is_plan(w, x, say):
    """Whether x is a plan of w from a say."""
    check_books(w, x)
    check_say(w.book, say)
    chart = x.chart()
    steps = w.book.steps()
    live = live_masks(chart.finals, chart_edges(chart, steps))
    if w.book.mask(say) & ~live[0] or not leaves_no_choice(chart) or not is_within(chart, w.chart(), steps):
        return False
    for row in chart.nexts:
        if any([target >= 0 and behind & ~live[target] for target, behind in zip(row, steps)]):
            return False
    return not (Flow.check(w.book, say) >> x).is_endless()


def trap(w):
    """The ascending list of the pairs of a place of the reader of w and truths that stand in some trap of w."""
    chart = reader_of(w).chart()
    truths = w.book.truths()
    everything = (1 << len(truths)) - 1
    masks = layers_of_needs(chart, w.book.steps())[-1]
    return [(place, truths[rank]) for place, mask in enumerate(masks) for rank in members(everything & ~mask)]


def is_trap(w, thing):
    """Whether any object is a trap of w."""
    chart = reader_of(w).chart()
    if not is_list(thing) or not all([is_point(w.book, len(chart.finals), pair) for pair in thing]):
        return False
    masks = [0 for _ in chart.finals]
    for place, truths in thing:
        masks[place] = masks[place] | 1 << w.book.rank(truths)
    # A pair is no part of a trap if it comes to its end, or some deed leads from it out of the list alone.
    outside = [~mask for mask in masks]
    for place, mask in enumerate(masks):
        for rank in members(mask):
            if chart.finals[place] >> rank & 1 or fit_symbols(chart, w.book.steps(), outside, place, rank):
                return False
    return True


def is_point(book, many, thing):
    """Whether any object is a pair of a place, of so many, and truths of a book."""
    if not is_list(thing) or len(thing) != 2:
        return False
    place, truths = thing
    return is_integer(place) and 0 <= place < many and book.rank(truths) is not None


def layers_of_needs(chart, steps):
    """The layers of a chart, up to the one with which all needs are told."""
    layers = [list(chart.finals)]
    wider = next_layer(chart, steps, layers[-1])
    while wider != layers[-1]:
        layers.append(wider)
        wider = next_layer(chart, steps, wider)
    return layers


def next_layer(chart, steps, masks):
    """The layer behind one: its truths, and those with which some deed is fit by it."""
    count = len(steps) // chart.width
    found = []
    for place, mask in enumerate(masks):
        for rank in range(count):
            if not mask >> rank & 1 and fit_symbols(chart, steps, masks, place, rank):
                mask = mask | 1 << rank
        found.append(mask)
    return found


def fit_symbols(chart, steps, masks, place, rank):
    """The ascending list of the symbols, with truths, that lead from a place to nothing but what masks tell."""
    row = chart.nexts[place]
    return [symbol for symbol in range(rank * chart.width, (rank + 1) * chart.width)
            if steps[symbol] and row[symbol] >= 0 and not steps[symbol] & ~masks[row[symbol]]]


def need_at(layers, place, rank):
    """The number of the first layer that has truths at a place, None if there is none."""
    for need, masks in enumerate(layers):
        if masks[place] >> rank & 1:
            return need
    return None
