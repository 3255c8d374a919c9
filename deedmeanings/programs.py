"""Programs: lines that do deeds and ask tests, and what is known of them."""

from deedmeanings.errors import UnlikeBooks
from deedmeanings.flows import Flow, check_say
from deedmeanings.lines import Listed, checked_lines, flags_of, moved
from deedmeanings.names import members
from deedmeanings.says import Say
from deedmeanings.walks import Walker, answers_of, line_masks, machine_of_walks, walked


class Program:
    """A book and lines."""

    def __init__(self, book, lines):
        self._lines = checked_lines(book, lines)
        self.book = book

    def lines(self):
        """The list of the lines as tuples."""
        return list(self._lines)

    def flow(self):
        """The flow of the rows of all walks that come to their ends."""
        return Flow(self.book, machine_of_walks(Walker(self.book, self._lines)))

    def known(self, say):
        """For each line, and that behind the last one, what surely holds there if a say held at the beginning."""
        check_say(self.book, say)
        walker = Walker(self.book, self._lines)
        masks = line_masks(walker, walked(walker, 0, 0, self.book.mask(say), False))
        return [self.book.where(mask) for mask in masks]

    def dead(self):
        """The ascending list of the lines to which no walk comes."""
        walker = Walker(self.book, self._lines)
        masks = line_masks(walker, walked(walker, 0, 0, walker.everything, False))
        return [at for at in range(len(self._lines)) if not masks[at]]

    def decided(self):
        """The ascending list of pairs (line, answer) of the lines at which all walks get one answer."""
        walker = Walker(self.book, self._lines)
        return answers_of(walker, walked(walker, 0, 0, walker.everything, False))

    def clean(self):
        """A program with the same flow without dead and decided lines."""
        return Program(self.book, Listed(cleaned(self._lines, self.dead(), self.decided())))

    def __len__(self):
        return len(self._lines)

    def __add__(self, other):
        if not isinstance(other, Program):
            return NotImplemented
        if not self.book == other.book:
            raise UnlikeBooks()
        return Program(self.book, Listed(one_behind_another(self._lines, other._lines)))

    def __eq__(self, other):
        return isinstance(other, Program) and self.book == other.book and self._lines == other._lines


def one_behind_another(lines, others):
    """The lines of a program and, where it comes to its end, those of another one, for which no flag is set."""
    size = len(lines)
    first = [("jump", size) if line[0] == "end" else line for line in lines]
    resets = [("set", flag, False) for flag in flags_of(others) if flag in flags_of(lines)]
    return first + resets + [moved(line, size + len(resets)) for line in others]


def cleaned(lines, dead, decided):
    """The lines of a program but for the dead and the decided ones.

    A line that lets all walks go on is left out, one that lets none do so jumps to itself for ever.
    """
    answers = dict(decided)
    passed = [at for at, truth in decided if truth == (lines[at][0] == "check")]
    gone = dict([(at, True) for at in dead + passed])
    numbers = []
    count = 0
    for at in range(len(lines) + 1):
        numbers.append(count)
        count = count if at in gone else count + 1
    found = []
    for at, line in enumerate(lines):
        if at in gone:
            continue
        if at in answers:
            line = ("jump", at if line[0] == "check" else line[2])
        target = line[-1] if line[0] in ("if", "jump", "either", "flag") else 0
        found.append(moved(line, numbers[target] - target))
    return found


def program_of(flow):
    """A program without flags that has a flow."""
    machine = flow.machine()
    blocks = [ways_on(flow.book, machine, place) for place in range(len(machine.finals))]
    starts = [0]
    for ways in blocks:
        # One line more for each way but the last one, that leads to the next one.
        starts = starts + [starts[-1] + sum([len(way) + 1 for way in ways]) - 1]
    lines = []
    for ways in blocks:
        for number, way in enumerate(ways):
            if number < len(ways) - 1:
                lines.append(("either", len(lines) + len(way) + 1))
            lines.extend([(line[0], starts[line[1]]) if line[0] == "jump" else line for line in way])
    return Program(flow.book, Listed(lines))


def ways_on(book, machine, place):
    """How rows go on at a place of a machine: lists of lines, at the end of which is jumped to places."""
    masks = {}
    for symbol, targets in enumerate(machine.moves[place]):
        for target in members(targets):
            key = (symbol % machine.width, target)
            masks[key] = masks.get(key, 0) | 1 << (symbol // machine.width)
    ways = [[("check", book.where(masks[(deed, target)])), ("do", book.deeds()[deed]), ("jump", target)]
            for deed, target in masks]
    if machine.finals[place]:
        ways.append([("check", book.where(machine.finals[place])), ("end",)])
    if not ways:
        ways.append([("check", Say.no())])
    return ways
