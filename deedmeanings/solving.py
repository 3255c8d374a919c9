"""The machines of solutions of systems of equations.

SUMMANDS are triples (name, machine, target): the name of the equation, and the name behind the machine, or
None. Their machines stand side by side, each behind a first place from which its own ones are counted. A
name is put idly for another one where a machine has a row of length 0.

No function here changes what it is passed.
"""

from deedmeanings.machines import Machine, both, gated, shifted


def solved(summands, name, book, is_greatest):
    """The machine of the least or the greatest solution for a name."""
    width = len(book.deeds())
    starts = [1]
    for _, machine, _ in summands:
        starts.append(starts[-1] + len(machine.finals))
    openings = {one: opening(summands, starts, one, book, is_greatest) for one, _, _ in summands}
    # A name without summands has no rows.
    shut = (0, [0 for _ in book.steps()])
    ends, row = openings.get(name, shut)
    finals = [ends]
    moves = [row]
    for (_, machine, target), start in zip(summands, starts):
        ends, row = openings.get(target, shut)
        for own, mask in zip(machine.moves, machine.finals):
            finals.append(mask if target is None else mask & ends)
            moves.append(both(shifted(own, start), gated(row, width, mask)))
    # At the last place all is let.
    everything = (1 << len(book.truths())) - 1
    return Machine(width, finals + [everything], moves + [[1 << starts[-1] for _ in book.steps()]])


def opening(summands, starts, name, book, is_greatest):
    """A pair: the mask of the truths with which rows of a name may end at once, and the moves by which they begin."""
    width = len(book.deeds())
    ends = 0
    row = []
    for rank in range(len(book.truths())):
        names = put_idly(summands, name, rank)
        is_free = is_greatest and comes_round(summands, names, rank)
        parts = [(machine, start, target) for (own, machine, target), start in zip(summands, starts) if own in names]
        if is_free or any([target is None and machine.finals[0] >> rank & 1 for machine, _, target in parts]):
            ends = ends | 1 << rank
        for symbol in range(rank * width, (rank + 1) * width):
            mask = 1 << starts[-1] if is_free else 0
            for machine, start, _ in parts:
                mask = mask | machine.moves[0][symbol] << start
            row.append(mask)
    return ends, row


def put_idly(summands, name, rank):
    """The list of the names that are put idly for a name, itself among them, at truths."""
    names = [name]
    at = 0
    while at < len(names):
        for own, machine, target in summands:
            if own == names[at] and machine.finals[0] >> rank & 1 and target is not None and target not in names:
                names.append(target)
        at += 1
    return names


def comes_round(summands, names, rank):
    """Whether one of some names is put idly, at truths, for what was put for it."""
    for own, machine, target in summands:
        if own in names and target is not None and machine.finals[0] >> rank & 1:
            if own in put_idly(summands, target, rank):
                return True
    return False
