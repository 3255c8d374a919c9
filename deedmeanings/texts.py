"""Texts of says, flows, books and programs, and what texts tell."""

from deedmeanings.books import MOST_DEEDS, MOST_TESTS, Book
from deedmeanings.errors import BadLine, BadText
from deedmeanings.flows import Flow
from deedmeanings.machines import checked, done, joined, repeated, united
from deedmeanings.names import are_names
from deedmeanings.programs import Program
from deedmeanings.signs import pieces_of, put_in_order, say_text, say_told
from deedmeanings.striking import flow_text

FLOW_SIGNS = ";+*()["
FLOW_BINDING = {"+": 1, ";": 2}
# Machines with more places are made smaller while a flow is read.
MANY_PLACES = 20
ANSWERS = {"yes": True, "no": False}
DIGITS = "0123456789"
# Greater numbers are none of lines.
LONGEST_NUMBER = 9


def write_say(say):
    """The text of a say."""
    return say_text(say)


def read_say(text):
    """The say that a text tells."""
    say = say_told(text)
    if say is None:
        raise BadText()
    return say


def write_flow(flow):
    """A text by which a flow is read."""
    return flow_text(flow)


def read_flow(book, text):
    """The flow that a text tells."""
    pieces = pieces_of(text, FLOW_SIGNS) if isinstance(text, str) else None
    order = None if pieces is None else put_in_order(pieces, dict(FLOW_BINDING))
    if order is None:
        raise BadText()
    # What stands several times in a text is made into a machine once.
    numbers = {}
    machines = []
    told = []
    for piece in order:
        key = (piece,)
        if piece == "*":
            key = (piece, told.pop())
        elif piece in FLOW_BINDING:
            last = told.pop()
            key = (piece, told.pop(), last)
        if key not in numbers:
            numbers[key] = len(machines)
            machines.append(machine_told(book, piece, [machines[number] for number in key[1:]]))
        told.append(numbers[key])
    return Flow(book, machines[told[0]])


def machine_told(book, piece, parts):
    """The machine of what a piece of a text tells of the machines of some parts."""
    if not parts:
        return single_machine(book, piece)
    if piece == "*":
        machine = repeated(parts[0])
    else:
        machine = joined(parts[0], parts[1]) if piece == ";" else united(parts[0], parts[1])
    return machine if len(machine.finals) <= MANY_PLACES else Flow(book, machine).machine()


def single_machine(book, piece):
    """The machine of a deed, or of a say in brackets."""
    width = len(book.deeds())
    count = len(book.truths())
    if book.number(piece) is not None:
        return done(width, count, book.number(piece))
    say = say_told(piece[1:-1]) if piece[0] == "[" else None
    if not is_say_of(book, say):
        raise BadText()
    return checked(width, count, book.mask(say))


def is_say_of(book, say):
    """Whether a say, or None, is a say of tests of a book."""
    return say is not None and all([name in book.tests() for name in say.tests()])


def write_book(book):
    """The text of a book."""
    lines = [" ".join(["tests"] + book.tests()), " ".join(["deeds"] + book.deeds())]
    for before, deed, behind in book.promises():
        lines.append("promise " + deed + " : " + say_text(before) + " -> " + say_text(behind))
    return ended(lines)


def read_book(text):
    """The book that a text tells."""
    lines = lines_of(text)
    tests = names_told(lines, 0, "tests", MOST_TESTS)
    if tests is None:
        raise BadLine(0)
    deeds = names_told(lines, 1, "deeds", MOST_DEEDS)
    if not deeds or any([name in tests for name in deeds]):
        raise BadLine(1)
    book = Book(tests, deeds)
    promises = [promise_told(line) for line in lines[2:]]
    for index, promise in enumerate(promises):
        if not book.has_promise(promise):
            raise BadLine(index + 2)
    check_end(text)
    return book.more(promises)


def names_told(lines, index, word, most):
    """The list of the unlike names, not more than the most, in a line that begins with a word; None if it is none."""
    words = lines[index].split(" ") if index < len(lines) else [""]
    names = words[1:]
    return names if words[0] == word and are_names(names) and len(names) <= most else None


def promise_told(line):
    """The promise that a line tells, None if it tells none; it need be none of a book."""
    parts = line.split(" : ")
    head = parts[0].split(" ")
    says = [] if len(parts) != 2 else [say_between(text) for text in parts[1].split(" -> ")]
    if len(head) != 2 or head[0] != "promise" or len(says) != 2:
        return None
    return (says[0], head[1], says[1])


def say_between(text):
    """The say that a text tells that has no space at its beginning or end, None if it tells none."""
    return say_told(text) if text == text.strip() else None


def write_program(program):
    """The text of a program."""
    return ended([line_text(line) for line in program.lines()])


def line_text(line):
    """The text of a line of a program."""
    word = line[0]
    if word == "check":
        return "check " + say_text(line[1])
    if word == "if":
        return "if " + say_text(line[1]) + " go " + str(line[2])
    if word == "set":
        return "set " + line[1] + (" yes" if line[2] else " no")
    if word == "flag":
        return "flag " + line[1] + " go " + str(line[2])
    return " ".join([str(part) for part in line])


def read_program(book, text):
    """The program that a text tells."""
    program = Program(book, [line_told(line) for line in lines_of(text)])
    check_end(text)
    return program


def line_told(line):
    """The line of a program that a line of a text tells, or what is no line."""
    word, _, rest = line.partition(" ")
    if word in ("if", "flag"):
        thing, _, at = rest.rpartition(" go ")
        return (word, say_between(thing) if word == "if" else thing, number_told(at))
    if word in ("jump", "either"):
        return (word, number_told(rest))
    if word == "check":
        return (word, say_between(rest))
    if word == "set":
        flag, _, answer = rest.partition(" ")
        return (word, flag, ANSWERS.get(answer))
    if word == "do":
        return (word, rest)
    return ("end",) if line == "end" else None


def number_told(text):
    """The number that a text tells without leading zeros, None if it tells none."""
    if not 1 <= len(text) <= LONGEST_NUMBER or not all([letter in DIGITS for letter in text]):
        return None
    return None if text[0] == "0" and len(text) > 1 else int(text)


def ended(lines):
    """The text that has some lines, a line feed behind each of them."""
    return "".join([line + "\n" for line in lines])


def lines_of(text):
    """The list of the lines of a text that end with a line feed; raises BadLine for any object that is no string."""
    if not isinstance(text, str):
        raise BadLine(0)
    return text.split("\n")[:-1]


def check_end(text):
    """Raises BadLine if the last line of a text lacks its line feed."""
    if text != "" and text[-1] != "\n":
        raise BadLine(text.count("\n"))
