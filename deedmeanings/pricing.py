"""The least prices of rows, and the least purses from which they can be paid.

What is told for each spot is told of the rows that begin there: None if there are none.

No function here changes what it is passed.
"""


def least_told(numbers):
    """The least of some numbers, None left out; None if there is no other."""
    told = [number for number in numbers if number is not None]
    return min([int(number) for number in told]) if told else None


def least_price(spots):
    """The least price of all rows, None if there is no row or no least one."""
    values = [0 if end else None for end, _ in spots.leads_on]
    led = [-1 for _ in values]
    before = []
    rounds = 0
    while values != before:
        before = values
        values, led = cheaper(spots, before, led)
        rounds += 1
        # To look for rings again and again would take longer than to go on for a while.
        if rounds & (rounds - 1) == 0 and has_ring(led):
            return None
    return least_told([values[spot] for spot in spots.starts])


def cheaper(spots, values, led):
    """A pair: the least prices with at most one deed more, and the spot to which each of them goes on first."""
    heads = [least_head(values, head) for head in spots.heads]
    found = []
    leads = []
    for value, target, (_, onward) in zip(values, led, spots.leads_on):
        for price, pair in onward:
            behind, spot = heads[pair]
            if behind is not None and (value is None or price + behind < value):
                value = price + behind
                target = spot
        found.append(value)
        leads.append(target)
    return found, leads


def least_head(values, head):
    """A pair: the least of the values of some spots, None if there is none, and the first spot that has it."""
    least = least_told([values[spot] for spot in head])
    for spot in head:
        if least is not None and values[spot] == least:
            return least, spot
    return None, -1


def has_ring(led):
    """Whether who goes from spot to spot, from each one to the one that is told for it, comes round somewhere."""
    seen = [-1 for _ in led]
    for start in range(len(led)):
        spot = start
        while spot >= 0 and seen[spot] < 0:
            seen[spot] = start
            spot = led[spot]
        if spot >= 0 and seen[spot] == start:
            return True
    return False


def exact_layers(spots, price):
    """For each number of deeds, up to the first with which some row has a price, the least price with just so many.

    No row may have a lower price.
    """
    values = [0 if end else None for end, _ in spots.leads_on]
    layers = [values]
    while least_told([values[spot] for spot in spots.starts]) != price:
        heads = [least_told([values[spot] for spot in head]) for head in spots.heads]
        values = [least_told([cost + heads[pair] for cost, pair in onward if heads[pair] is not None])
                  for _, onward in spots.leads_on]
        layers.append(values)
    return layers


def first_cheapest(spots, price):
    """The first row that has the least price, told by numbers."""
    layers = exact_layers(spots, price)
    place = 0
    rank, _ = first_with(spots.spots_of(0, (1 << len(spots.found_at[0])) - 1), layers[-1], price)
    row = [rank]
    for values in layers[-2::-1]:
        for deed, cost, target, mask in spots.ways_from(place, rank):
            last, _ = first_with(spots.spots_of(target, mask), values, price - cost)
            if last is not None:
                row.extend([deed, last])
                place = target
                rank = last
                price = price - cost
                break
    return row


def first_with(choices, values, price):
    """The first of some pairs (truths, spot) of whose spot a price is told, a pair of None if there is none."""
    for rank, spot in choices:
        if values[spot] == price:
            return rank, spot
    return None, None


def least_purse(spots):
    """The least purse from which some row can be paid, None if there is no row."""
    values = [0 if end else None for end, _ in spots.leads_on]
    before = []
    while values != before:
        before = values
        heads = [least_told([before[spot] for spot in head]) for head in spots.heads]
        values = [least_told([value] + [max(0, price + heads[pair]) for price, pair in onward
                                        if heads[pair] is not None])
                  for value, (_, onward) in zip(before, spots.leads_on)]
    return least_told([values[spot] for spot in spots.starts])
