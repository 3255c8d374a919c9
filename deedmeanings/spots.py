"""Spots of charts: places with truths, of which those are one at which rows end and go on in the same way.

Rows are told by numbers. The spots of trimmed charts are told here, but for those at which no row ends or
goes on: to each of the others some beginning of a row comes.

No function here changes what it is passed.
"""

from deedmeanings.charts import numbered
from deedmeanings.names import members

# The spot at which no row ends or goes on.
NOWHERE = (0, ())


class Spots:
    """The spots of a trimmed chart, with the prices of symbols: those with other prices are others.

    Where rows go on, they come to a pair of a place and the truths that may stand there. heads has for each
    pair the numbers of its spots, found_at has for each place the numbers of the spots with each truths, -1
    where there is none, and leads_on has for each spot whether rows end there, and a list of pairs: the price
    of a deed, and the number of the pair to which it leads.
    """

    def __init__(self, chart, steps, worth):
        self.chart_told = chart
        self.behind_symbols = steps
        self.worth = worth
        numbers = {}
        for pair in [pair for row in chart.nexts for pair in zip(row, steps) if pair[0] >= 0]:
            if pair not in numbers:
                numbers[pair] = len(numbers)
        across = len(steps) // chart.width
        # The first key is that of nowhere, so that it has the number -1 below.
        keys = [NOWHERE]
        for row, ends in zip(chart.nexts, chart.finals):
            led = [(price, numbers.get(pair, -1)) for price, pair in zip(worth, list(zip(row, steps)))]
            for rank in range(across):
                onward = [one for one in led[rank * chart.width:(rank + 1) * chart.width] if one[1] >= 0]
                keys.append((ends >> rank & 1, tuple(onward)))
        found, firsts = numbered(keys)
        places = [number - 1 for number in found[1:]]
        self.found_at = [places[start:start + across] for start in range(0, len(places), across)]
        self.heads = [[self.found_at[place][last] for last in members(truths) if self.found_at[place][last] >= 0]
                      for place, truths in numbers]
        self.leads_on = [keys[first] for first in firsts[1:]]
        self.starts = [number for number in self.found_at[0] if number >= 0]

    def spots_of(self, place, mask):
        """The list of pairs (truths, spot) of the truths of a mask with which there are spots at a place."""
        return [(rank, self.found_at[place][rank]) for rank in members(mask) if self.found_at[place][rank] >= 0]

    def ways_from(self, place, rank):
        """The list of the ways on from a place with truths: deed, price, place, mask of the truths behind it."""
        width = self.chart_told.width
        row = self.chart_told.nexts[place]
        return [(symbol % width, self.worth[symbol], row[symbol], self.behind_symbols[symbol])
                for symbol in range(rank * width, (rank + 1) * width) if row[symbol] >= 0]


def free_spots(chart, steps):
    """The spots of a trimmed chart, without prices."""
    return Spots(chart, steps, [0 for _ in steps])
