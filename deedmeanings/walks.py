"""Walks through the lines of a program.

A STOP of walks is a pair (line, flags): a number of a line and the mask of the flags that are set, each
told by its place among the flags of the program. Many walks are told at once, by the mask of the truths
with which they come to a stop.
"""

from deedmeanings.lines import flags_of
from deedmeanings.machines import Machine
from deedmeanings.names import members, numbers_of


class Walker:
    """A program's lines, with what is asked of them again and again."""

    def __init__(self, book, lines):
        self.book = book
        self.listing = lines
        self.width = len(book.deeds())
        self.everything = (1 << len(book.truths())) - 1
        self.flag_numbers = numbers_of(flags_of(lines))
        self.says = [book.mask(line[1]) if line[0] in ("check", "if") else 0 for line in lines]

    def is_over(self, at):
        """Whether walks are at their end at the line of a number."""
        return at == len(self.listing) or self.listing[at][0] == "end"

    def deed_at(self, at):
        """The number of the deed that is done at a line, None if none is."""
        if self.is_over(at) or self.listing[at][0] != "do":
            return None
        return self.book.number(self.listing[at][1])

    def is_set(self, at, flags):
        """Whether the flag for which a line asks is set."""
        return flags >> self.flag_numbers[self.listing[at][1]] & 1 == 1

    def idly(self, at, flags, truths):
        """Where walks go on, without a deed, from a stop with truths of a mask: a list of stops with masks."""
        if self.is_over(at):
            return []
        line = self.listing[at]
        if line[0] == "check":
            return [(at + 1, flags, truths & self.says[at])]
        if line[0] == "if":
            return [(line[2], flags, truths & self.says[at]), (at + 1, flags, truths & ~self.says[at])]
        if line[0] == "jump":
            return [(line[1], flags, truths)]
        if line[0] == "either":
            return [(line[1], flags, truths), (at + 1, flags, truths)]
        if line[0] == "flag":
            return [(line[2] if self.is_set(at, flags) else at + 1, flags, truths)]
        if line[0] == "set":
            bit = 1 << self.flag_numbers[line[1]]
            return [(at + 1, flags | bit if line[2] else flags & ~bit, truths)]
        return []

    def onward(self, at, flags, truths):
        """Where walks go on from a stop with truths of a mask, by deeds, too: a list of stops with masks."""
        deed = self.deed_at(at)
        if deed is None:
            return self.idly(at, flags, truths)
        steps = self.book.steps()
        behind = 0
        for rank in members(truths):
            behind = behind | steps[rank * self.width + deed]
        return [(at + 1, flags, behind)]


def walked(walker, at, flags, truths, idle):
    """The dict from stops to the masks of truths with which walks come there that begin at a stop.

    If they are to be idle, they go no further than to a deed.
    """
    come = {}
    queue = [(at, flags, truths)]
    while queue:
        line, held, mask = queue.pop()
        fresh = mask & ~come.get((line, held), 0)
        if fresh:
            come[(line, held)] = come.get((line, held), 0) | fresh
            behind = walker.idly(line, held, fresh) if idle else walker.onward(line, held, fresh)
            queue.extend(behind)
    return come


def line_masks(walker, come):
    """For each line, and then for that behind the last one, the mask of the truths with which walks come there."""
    found = [0 for _ in range(len(walker.listing) + 1)]
    for at, flags in come:
        found[at] = found[at] | come[(at, flags)]
    return found


def answers_of(walker, come):
    """The list of pairs (line, answer) of the lines that are asked by some walks, with one answer by all."""
    told = {}
    for at, flags in come:
        word = "end" if walker.is_over(at) else walker.listing[at][0]
        mask = come[(at, flags)]
        if word == "flag":
            told[at] = told.get(at, 0) | (1 if walker.is_set(at, flags) else 2)
        if word in ("check", "if"):
            told[at] = told.get(at, 0) | (1 if mask & walker.says[at] else 0)
            told[at] = told[at] | (2 if mask & ~walker.says[at] else 0)
    return [(at, told[at] == 1) for at in sorted([int(at) for at in told]) if told[at] != 3]


def machine_of_walks(walker):
    """The machine of the rows that are shown by walks: its places are the stops behind deeds, and the first one."""
    numbers = {(0, 0): 0}
    heads = [(0, 0)]
    finals = []
    moves = []
    while len(moves) < len(heads):
        line, held = heads[len(moves)]
        come = walked(walker, line, held, walker.everything, True)
        row = [0 for _ in walker.book.steps()]
        ends = 0
        for at, flags in come:
            deed = walker.deed_at(at)
            ends = ends | (come[(at, flags)] if walker.is_over(at) else 0)
            if deed is None:
                continue
            if (at + 1, flags) not in numbers:
                numbers[(at + 1, flags)] = len(heads)
                heads.append((at + 1, flags))
            for rank in members(come[(at, flags)]):
                symbol = rank * walker.width + deed
                row[symbol] = row[symbol] | 1 << numbers[(at + 1, flags)]
        finals.append(ends)
        moves.append(row)
    return Machine(walker.width, finals, moves)
