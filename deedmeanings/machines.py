"""Machines: how the rows of flows are told, so that flows can be put together.

A symbol is truths and a deed that comes behind them, as the number truths * width + deed, with as many
deeds as the width tells. A machine has places and begins at place 0. finals[place] is the mask of the
truths at which a row may end there, moves[place][symbol] the mask of the places to which it goes on by a
symbol: none, one, or several. It takes rows as they come, also with steps that a book does not let: of
what it takes only the rows of the book count. So a machine can be kept when the book gets stricter.

No function here changes what it is passed.
"""

from deedmeanings.names import mask_of, members


class Machine:
    """Places, the truths at which rows may end there, and the moves between the places."""

    def __init__(self, width, finals, moves):
        self.width = width
        self.finals = tuple(finals)
        self.moves = tuple([tuple(row) for row in moves])


def every_truths(machine):
    """The mask of all truths."""
    return (1 << (len(machine.moves[0]) // machine.width)) - 1


def checked(width, count, mask):
    """The machine, over so many truths, of the rows of length 0 with the truths of a mask."""
    return Machine(width, [mask], [[0] * (width * count)])


def done(width, count, number):
    """The machine of all steps with the deed of a number."""
    row = [2 if symbol % width == number else 0 for symbol in range(width * count)]
    return Machine(width, [0, (1 << count) - 1], [row, [0] * (width * count)])


def unbounded(width, count):
    """The machine of all rows."""
    return Machine(width, [(1 << count) - 1], [[1] * (width * count)])


def shifted(row, by):
    """The moves of a row, told for places whose numbers are greater."""
    return [targets << by for targets in row]


def both(row, other):
    """The moves of two rows together."""
    return [mine | yours for mine, yours in zip(row, other)]


def gated(row, width, mask):
    """The moves of a row that begin with the truths of a mask."""
    return [targets if mask >> (symbol // width) & 1 else 0 for symbol, targets in enumerate(row)]


def united(one, other):
    """The machine of the rows of one machine and those of another one."""
    size = len(one.finals) + 1
    start = both(shifted(one.moves[0], 1), shifted(other.moves[0], size))
    finals = [one.finals[0] | other.finals[0]] + list(one.finals) + list(other.finals)
    moves = [shifted(row, 1) for row in one.moves] + [shifted(row, size) for row in other.moves]
    return Machine(one.width, finals, [start] + moves)


def joined(one, other):
    """The machine of all rows that are joined of a row of one machine and a row of another one."""
    size = len(one.finals)
    start = shifted(other.moves[0], size)
    finals = [mask & other.finals[0] for mask in one.finals] + list(other.finals)
    moves = [both(row, gated(start, one.width, mask)) for row, mask in zip(one.moves, one.finals)]
    return Machine(one.width, finals, moves + [shifted(row, size) for row in other.moves])


def repeated(machine):
    """The machine of all rows that are joined of any number of rows of a machine."""
    start = shifted(machine.moves[0], 1)
    finals = [every_truths(machine)] + list(machine.finals)
    moves = [both(shifted(row, 1), gated(start, machine.width, mask))
             for row, mask in zip(machine.moves, machine.finals)]
    return Machine(machine.width, finals, [start] + moves)


def shared(one, other):
    """The machine of the rows that two machines have in common: its places are pairs of theirs."""
    numbers = {(0, 0): 0}
    pairs = [(0, 0)]
    moves = []
    while len(moves) < len(pairs):
        first, second = pairs[len(moves)]
        row = []
        for mine, yours in zip(one.moves[first], other.moves[second]):
            mask = 0
            for pair in [(left, right) for left in members(mine) for right in members(yours)]:
                if pair not in numbers:
                    numbers[pair] = len(pairs)
                    pairs.append(pair)
                mask = mask | 1 << numbers[pair]
            row.append(mask)
        moves.append(row)
    finals = [one.finals[first] & other.finals[second] for first, second in pairs]
    return Machine(one.width, finals, moves)


def beginnings(machine):
    """The machine of the beginnings of rows of a trimmed machine: it may end wherever it may go on."""
    finals = [mask | going_on(row, machine.width) for row, mask in zip(machine.moves, machine.finals)]
    return Machine(machine.width, finals, machine.moves)


def going_on(row, width):
    """The mask of the truths at which some move of a row begins."""
    return mask_of([first for first in range(len(row) // width) if any(row[first * width:(first + 1) * width])])


def backwards(machine):
    """The machine of the rows read backwards.

    Its places, but for 0, are pairs of a place and a deed by which it is come to: what is left then are
    the truths ahead of this deed.
    """
    width = machine.width
    count = len(machine.moves[0]) // width
    came = sources_of(machine)
    numbers = {}
    for place, symbol in came:
        if (place, symbol % width) not in numbers:
            numbers[(place, symbol % width)] = len(numbers) + 1
    into = [[1 << numbers[(place, deed)] if (place, deed) in numbers else 0 for deed in range(width)]
            for place in range(len(machine.finals))]
    ends = [mask_of([place for place, mask in enumerate(machine.finals) if mask >> truths & 1])
            for truths in range(count)]
    sources = [ends] + [[came.get((place, truths * width + deed), 0) for truths in range(count)]
                        for place, deed in numbers]
    finals = [mask_of([truths for truths, places in enumerate(masks) if places & 1]) for masks in sources]
    return Machine(width, finals, [backward_row(masks, into) for masks in sources])


def sources_of(machine):
    """For each place and each symbol by which it is come to, the mask of the places from which it is."""
    came = {}
    for place, row in enumerate(machine.moves):
        for symbol, targets in enumerate(row):
            for target in members(targets):
                came[(target, symbol)] = came.get((target, symbol), 0) | 1 << place
    return came


def stand_ins(machine):
    """For each place the mask of those that stand in for it: each move and end of it is one of theirs, too.

    Each place to which a move of it leads has a place among those to which theirs lead that stands in for it.
    So what is read from a place is read from each of them.
    """
    came = sources_of(machine)
    found = [mask_of([other for other, ends in enumerate(machine.finals) if not mask & ~ends])
             for mask in machine.finals]
    before = []
    while found != before:
        before = found
        found = fewer_stand_ins(machine, came, before)
    return found


def fewer_stand_ins(machine, came, before):
    """Those that stand in for each place by one move, if they do so behind it as was told before."""
    behind = {}
    for target, symbol in came:
        if (before[target], symbol) not in behind:
            mask = 0
            for other in members(before[target]):
                mask = mask | came.get((other, symbol), 0)
            behind[(before[target], symbol)] = mask
    found = []
    for row, mask in zip(machine.moves, before):
        for symbol, targets in enumerate(row):
            for target in members(targets):
                mask = mask & behind[(before[target], symbol)]
        found.append(mask)
    return found


def backward_row(sources, into):
    """The moves, of a machine read backwards, with the places where it may stand at each truths."""
    row = []
    for places in sources:
        masks = [0 for _ in into[0]]
        for place in members(places):
            masks = both(masks, into[place])
        row = row + masks
    return row


def trimmed(machine, steps):
    """The machine with just the places, moves and ends that some row of a book makes use of.

    The book is told by the masks of the truths that may come behind each symbol.
    """
    edges = edges_of(machine, steps)
    live = live_masks(machine.finals, edges)
    come = come_masks(every_truths(machine), edges)
    kept = [place for place in range(len(live)) if place == 0 or live[place] & come[place]]
    numbers = {place: number for number, place in enumerate(kept)}
    moves = []
    for place in kept:
        row = [0 for _ in steps]
        for symbol, bit, behind, targets in edges[place]:
            if bit & come[place]:
                row[symbol] = mask_of([numbers[target] for target in targets if live[target] & behind])
        moves.append(row)
    return Machine(machine.width, [machine.finals[place] & come[place] for place in kept], moves)


def edges_of(machine, steps):
    """For each place the list of its moves: symbol, the bit of its truths, what may come behind, places."""
    return [[(symbol, 1 << (symbol // machine.width), steps[symbol], members(targets))
             for symbol, targets in enumerate(row) if targets] for row in machine.moves]


def live_masks(finals, edges):
    """For each place the mask of the truths with which some row goes on from there to its end."""
    live = list(finals)
    grown = True
    while grown:
        grown = False
        for place in reversed(range(len(edges))):
            mask = live[place]
            for _, bit, behind, targets in edges[place]:
                if not mask & bit and any([live[target] & behind for target in targets]):
                    mask = mask | bit
            if mask != live[place]:
                live[place] = mask
                grown = True
    return live


def come_masks(everything, edges):
    """For each place the mask of the truths with which some beginning of a row comes there."""
    come = [0 for _ in edges]
    come[0] = everything
    fresh = list(come)
    queue = [0]
    at = 0
    while at < len(queue):
        place = queue[at]
        at += 1
        now = fresh[place]
        fresh[place] = 0
        for _, bit, behind, targets in edges[place]:
            for target in targets:
                more = behind & ~come[target] if bit & now else 0
                if more and not fresh[target]:
                    queue.append(target)
                come[target] = come[target] | more
                fresh[target] = fresh[target] | more
    return come
