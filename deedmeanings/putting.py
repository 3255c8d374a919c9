"""Putting rows of a machine in the place of the steps with a deed in the rows of another one.

A place of the machine that is made is either OUTSIDE, a place of the machine in whose rows is replaced,
or INSIDE: a place of the part, a place outside at which is gone on behind the part, and the truths, chosen
ahead, at which the part has to end. As these are chosen ahead, fewer sets of places are come to by the
same symbols than if what may come behind the replaced step was kept.
"""

from deedmeanings.machines import Machine, gated
from deedmeanings.names import mask_of, members, numbers_of


class Putting:
    """What is asked again and again while the machine is made."""

    def __init__(self, machine, number, part, steps):
        self.outer = machine
        self.replaced = number
        self.part = part
        self.behind_symbols = steps
        self.heads = heads_of(machine, number)
        self.head_numbers = numbers_of(self.heads)
        self.reached = [reached_idly(machine, part, steps, symbol)
                        for symbol in range(number, len(steps), machine.width)]

    def inside(self, head, last):
        """The number of the first place inside that has to end with truths and go on at a head."""
        count = len(self.reached)
        size = len(self.part.finals)
        return len(self.outer.finals) + (self.head_numbers[head] * count + last) * size


def put_in(machine, number, part, steps):
    """The machine of the rows that come of one machine's by putting rows of a part for each step of a deed.

    A row of the part stands for a step that the book lets if it begins and ends with its truths.
    """
    putting = Putting(machine, number, part, steps)
    entries = {head: entering_row(putting, head) for head in putting.heads}
    finals = [outside_ends(putting, place) for place in range(len(machine.finals))]
    moves = [outside_row(putting, entries, place) for place in range(len(machine.finals))]
    for head in putting.heads:
        outside = moves[head]
        for last in range(len(putting.reached)):
            bit = 1 << last
            shift = putting.inside(head, last)
            finals = finals + [mask & finals[head] & bit for mask in part.finals]
            moves = moves + [left_row(row, shift, gated(outside, machine.width, mask & bit))
                             for row, mask in zip(part.moves, part.finals)]
    return Machine(machine.width, finals, moves)


def left_row(row, shift, outside):
    """The moves of a place of the part, and those of the place outside at which is gone on where it ends."""
    return [targets << shift | others for targets, others in zip(row, outside)]


def heads_of(machine, number):
    """The ascending list of the places to which moves with a deed lead."""
    mask = 0
    for row in machine.moves:
        for targets in row[number::machine.width]:
            mask = mask | targets
    return members(mask)


def reached_idly(machine, part, steps, symbol):
    """For each place the mask of those to which rows of length 0, put for moves by a symbol, lead from it."""
    truths = symbol // machine.width
    idle = part.finals[0] & steps[symbol] & 1 << truths
    found = []
    for place in range(len(machine.finals)):
        queue = [place]
        at = 0
        while idle and at < len(queue):
            queue = queue + [target for target in members(machine.moves[queue[at]][symbol]) if target not in queue]
            at += 1
        found.append(mask_of(queue))
    return found


def entering_row(putting, head):
    """The moves by which a row of the part begins, in the place of a step by which a head is come to."""
    width = putting.outer.width
    row = []
    for symbol, targets in enumerate(putting.part.moves[0]):
        step = symbol - symbol % width + putting.replaced
        mask = 0
        for last in members(putting.behind_symbols[step]):
            mask = mask | targets << putting.inside(head, last)
        row.append(mask)
    return row


def outside_ends(putting, place):
    """The mask of the truths at which a row may end at a place outside, if need be behind rows of length 0."""
    return mask_of([truths for truths, reached in enumerate(putting.reached)
                    if any([putting.outer.finals[idle] >> truths & 1 for idle in members(reached[place])])])


def outside_row(putting, entries, place):
    """The moves from a place outside: the other deeds, and the beginnings of rows of the part."""
    machine = putting.outer
    row = []
    for symbol in range(len(putting.behind_symbols)):
        truths, deed = divmod(symbol, machine.width)
        mask = 0
        for idle in members(putting.reached[truths][place]):
            if deed != putting.replaced:
                mask = mask | machine.moves[idle][symbol]
            for head in members(machine.moves[idle][truths * machine.width + putting.replaced]):
                mask = mask | entries[head][symbol]
        row.append(mask)
    return row
