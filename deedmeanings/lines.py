"""Lines of programs: what is one, and where it leads."""

from deedmeanings.errors import BadLine
from deedmeanings.names import is_integer, is_list, is_name
from deedmeanings.says import Say

MOST_LINES = 20
MOST_FLAGS = 3
# Of each kind of line what stands behind its word.
KINDS = {"do": ("deed",), "check": ("say",), "if": ("say", "at"), "jump": ("at",), "either": ("at",),
         "set": ("flag", "truth"), "flag": ("flag", "at"), "end": ()}


class Listed:
    """Lines that need not be looked at again: those that the package puts together, however many they are."""

    def __init__(self, lines):
        self.kept = tuple([tuple(line) for line in lines])


def checked_lines(book, lines):
    """The lines of a program as tuples; raises BadLine for the first thing that is none."""
    if isinstance(lines, Listed):
        return lines.kept
    if not is_list(lines):
        raise BadLine(0)
    found = []
    for index, line in enumerate(lines):
        if index == MOST_LINES or not is_line(book, len(lines), line):
            raise BadLine(index)
        found.append(tuple(line))
        if len(flags_of(found)) > MOST_FLAGS:
            raise BadLine(index)
    return tuple(found)


def is_line(book, count, thing):
    """Whether any object is a line of a program of a book with so many lines."""
    if not is_list(thing) or not thing or not isinstance(thing[0], str) or thing[0] not in KINDS:
        return False
    kinds = KINDS[thing[0]]
    if len(thing) != len(kinds) + 1:
        return False
    return all([is_operand(book, count, kind, part) for kind, part in zip(kinds, thing[1:])])


def is_operand(book, count, kind, thing):
    """Whether any object may stand in a line where something of a kind is asked for."""
    if kind == "deed":
        return book.number(thing) is not None
    if kind == "say":
        return isinstance(thing, Say) and all([name in book.tests() for name in thing.tests()])
    if kind == "at":
        return is_integer(thing) and 0 <= thing <= count
    if kind == "flag":
        return is_name(thing)
    return thing is True or thing is False


def flags_of(lines):
    """The list of the flags of lines, in the order in which they come."""
    found = []
    for line in lines:
        if line[0] in ("set", "flag") and line[1] not in found:
            found.append(line[1])
    return found


def moved(line, by):
    """A line that leads to lines so many places further on."""
    if line[0] in ("if", "flag"):
        return (line[0], line[1], line[2] + by)
    if line[0] in ("jump", "either"):
        return (line[0], line[1] + by)
    return line
