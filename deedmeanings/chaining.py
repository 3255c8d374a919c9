"""Chains: where who goes by a flow that leaves no choice comes to, and by which chances.

A STOP is a place of a chart with truths. Stops are numbered, the first one 0; at the end at some truths
stands the number -1 - truths. A ROW of a chain tells how it goes on from a stop: a triple of what the
weights are parts of, of the mean number of deeds, as such a part, and of a dict from numbers to weights.
Fractions are pairs (top, bottom).

No function here changes what it is passed.
"""

from math import gcd, lcm


def lowest(top, bottom):
    """A fraction in lowest terms."""
    common = gcd(top, bottom)
    return top // common, bottom // common


def stops_from(chart, odds, first):
    """The dict from the stops that are come to, beginning with truths, to lists of pairs (stop or end, weight).

    Odds has for each symbol the list of pairs (truths, weight) of the truths that may come behind it.
    """
    found = {}
    queue = [(0, first)]
    known = {(0, first): True}
    while len(found) < len(queue):
        place, rank = queue[len(found)]
        ways = ways_on(chart, odds, place, rank)
        found[(place, rank)] = ways
        for stop, _ in ways:
            if stop[0] >= 0 and stop not in known:
                known[stop] = True
                queue.append(stop)
    return found


def ways_on(chart, odds, place, rank):
    """The list of pairs (stop, weight) to which is gone on; the end, with a weight of 1, is at the place -1."""
    if chart.finals[place] >> rank & 1:
        return [((-1, rank), 1)]
    ways = []
    for symbol in range(rank * chart.width, (rank + 1) * chart.width):
        target = chart.nexts[place][symbol]
        if target >= 0:
            ways.extend([((target, last), weight) for last, weight in odds[symbol]])
    return ways


def chain_of(chart, odds, first):
    """The rows of the stops that are come to, beginning with truths, and from which some end is come to."""
    stops = stops_from(chart, odds, first)
    ending = ending_stops(stops)
    numbers = {}
    for stop in stops:
        if stop in ending:
            numbers[stop] = len(numbers)
    rows = []
    for stop in numbers:
        total = total_of(stops[stop])
        is_end = stops[stop][:1] == [((-1, stop[1]), 1)]
        led = {numbers.get(target, -1 - target[1]): weight for target, weight in stops[stop]
               if target in numbers or target[0] < 0}
        rows.append((total, 0 if is_end else total, led))
    return rows


def ending_stops(stops):
    """The dict with the stops, as its keys, from which some end is come to."""
    came = {}
    ending = {}
    queue = []
    for stop in stops:
        for target, _ in stops[stop]:
            came[target] = came.get(target, []) + [stop]
            if target[0] < 0 and stop not in ending:
                ending[stop] = True
                queue.append(stop)
    at = 0
    while at < len(queue):
        here = queue[at]
        at += 1
        for source in came.get(here, []):
            if source not in ending:
                ending[source] = True
                queue.append(source)
    return ending


def struck_out(rows):
    """The row of the first stop when all others have been struck out; it may lead back to the first stop."""
    while len(rows) > 1:
        last = len(rows) - 1
        rows = [without_stop(row, last, rows[last]) for row in rows[:last]]
    return rows[0]


def without_stop(row, number, other):
    """A row in which the stop of a number, whose own row is passed, too, is struck out."""
    total, deeds, led = row
    if number not in led:
        return row
    whole, more, further = other
    # What comes round to the stop itself is left out of all that goes on from it.
    left = whole - further.get(number, 0)
    through = led[number]
    found = dict([(target, led[target] * left) for target in led if target != number])
    for target in further:
        if target != number:
            found[target] = found.get(target, 0) + through * further[target]
    return smaller_row(total * left, deeds * left + through * more, found)


def smaller_row(total, deeds, led):
    """The row with all its numbers divided by what divides all of them."""
    common = gcd(total, deeds)
    for target in led:
        common = gcd(common, led[target])
    return total // common, deeds // common, {target: led[target] // common for target in led}


def end_chances(chart, odds, first):
    """A triple: the dict from truths to the weights of the ends there, what these are parts of, and the deeds."""
    rows = chain_of(chart, odds, first)
    if not rows:
        return {}, 1, 0
    total, deeds, led = struck_out(rows)
    ends = {-1 - target: led[target] for target in led if target < 0}
    return ends, total - led.get(0, 0), deeds


def early_chance(chart, odds, first, most):
    """The chance that the end is come to with at most so many deeds."""
    stops = stops_from(chart, odds, first)
    weights = {(0, first): 1}
    whole = 1
    ended = 0
    for _ in range(most + 1):
        common = 1
        for stop in weights:
            common = lcm(common, total_of(stops[stop]))
        behind = {}
        for stop in weights:
            share = weights[stop] * (common // total_of(stops[stop]))
            for target, weight in stops[stop]:
                behind[target] = behind.get(target, 0) + share * weight
        whole = whole * common
        ended = ended * common + sum([behind[target] for target in behind if target[0] < 0])
        weights = {target: behind[target] for target in behind if target[0] >= 0}
    return lowest(ended, whole)


def total_of(ways):
    """What the weights of the ways on from a stop are parts of."""
    total = sum([weight for _, weight in ways])
    # Where a deed fails no way leads on.
    return total if total else 1
