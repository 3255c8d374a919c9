"""Rows of which some parts never happen, and which bars are needed so that a flow is within another one."""

from deedmeanings.charts import Chart, machine_of, opposite
from deedmeanings.choices import all_choices, greatest_left, least_choices
from deedmeanings.errors import BadBar
from deedmeanings.flows import Flow, check_books
from deedmeanings.machines import shared
from deedmeanings.names import is_list


def barred(p, r):
    """The flow of the rows of p of which no part is a row of r."""
    check_books(p, r)
    return Flow(p.book, shared(p.machine(), never(r)))


def never(r):
    """The machine of all rows of which no part is a row of r."""
    # No beginning of such a row ends with a row of r.
    ending = Flow.full(r.book) >> r
    return machine_of(closed(opposite(ending.chart())))


def closed(chart):
    """The chart of the rows of a chart of which each beginning is such a row, too."""
    nexts = [[target if ends >> (symbol // chart.width) & 1 else -1 for symbol, target in enumerate(row)]
             for row, ends in zip(chart.nexts, chart.finals)]
    return Chart(chart.width, chart.finals, nexts)


def bars_enough(p, q, bars):
    """The least sets of places of bars with which each row of p is a row of q."""
    return least_choices(enough_bars(p, q, bars))


def bars_wanting(p, q, bars):
    """The greatest sets of places of bars with which not each row of p is a row of q."""
    choices = enough_bars(p, q, bars)
    return greatest_left(len(bars), choices)


def bars_shown(p, q, bars):
    """For each of the greatest sets that are not enough the first row of p that is left and is no row of q."""
    choices = bars_wanting(p, q, bars)
    rest = p - q
    nevers = [never(bar) for bar in bars]
    return [all_barred(rest, [nevers[place] for place in some]).first() for some in choices]


def enough_bars(p, q, bars):
    """All sets of places of bars, in order, with which each row of p is a row of q."""
    check_books(p, q)
    check_bars(p.book, bars)
    rest = p - q
    nevers = [never(bar) for bar in bars]
    return [some for some in all_choices(len(bars)) if not all_barred(rest, [nevers[place] for place in some])]


def all_barred(p, nevers):
    """The flow of the rows of p that all of some machines have, too."""
    for machine in nevers:
        p = Flow(p.book, shared(p.machine(), machine))
    return p


def check_bars(book, bars):
    """Raises BadBar for the first thing that is no flow of a book."""
    if not is_list(bars):
        raise BadBar(0)
    for index, bar in enumerate(bars):
        if not isinstance(bar, Flow) or not bar.book == book:
            raise BadBar(index)
