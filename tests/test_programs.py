"""[32] to [34]: programs, against independent walks from line to line."""

import unittest

from deedmeanings.books import Book
from deedmeanings.errors import BadLine, NoTest, UnlikeBooks
from deedmeanings.flows import Flow, whilst
from deedmeanings.programs import Program, program_of
from deedmeanings.says import Say

from tests.plain import all_truths, book_of, chances, random_book, say_of
from tests.things import SHAPES, flow_cases, odd_things

A, B = Say.test("a"), Say.test("b")


def random_line(chance, plain, count, flags):
    word = chance.choice(["do", "do", "do", "check", "if", "if", "jump", "either", "set", "set", "flag", "flag", "end"])
    say = say_of(plain[0], [truths for truths in all_truths(plain[0]) if chance.random() < 0.5])
    at = chance.randrange(count + 1)
    if word in ("set", "flag") and not flags:
        word = "either"
    operands = {"do": (chance.choice(plain[1]),), "check": (say,), "if": (say, at), "jump": (at,), "either": (at,),
                "end": ()}
    if word == "set":
        return "set", chance.choice(flags), chance.random() < 0.6
    return ("flag", chance.choice(flags), at) if word == "flag" else (word,) + operands[word]


def random_lines(chance, plain, most=9):
    count = chance.randrange(most + 1)
    # Flags may have the names of deeds and tests.
    flags = ("d", "x", "h")[:chance.randrange(4)]
    return [random_line(chance, plain, count, flags) for _ in range(count)]


def one_on(plain, lines, at, flags, truths):
    """All triples (deed or None, line, flags, truths) to which a walk comes from a line at once."""
    word, *rest = lines[at]
    if word == "do":
        return [(rest[0], at + 1, flags, behind) for behind in sorted(plain[2][truths, rest[0]])]
    if word == "check":
        return [(None, at + 1, flags, truths)] if rest[0].holds(truths) else []
    if word == "if":
        return [(None, rest[1] if rest[0].holds(truths) else at + 1, flags, truths)]
    if word == "jump":
        return [(None, rest[0], flags, truths)]
    if word == "either":
        return [(None, rest[0], flags, truths), (None, at + 1, flags, truths)]
    if word == "set":
        return [(None, at + 1, flags | {rest[0]} if rest[1] else flags - {rest[0]}, truths)]
    return [(None, rest[1] if rest[0] in flags else at + 1, flags, truths)]


def is_end(lines, at):
    return at == len(lines) or lines[at] == ("end",)


def walk_rows(plain, lines, limit):
    """All rows with at most so many deeds that are shown by walks."""
    begun = [((truths,), 0, frozenset()) for truths in all_truths(plain[0])]
    seen, found = set(begun), set()
    for row, at, flags in begun:
        if is_end(lines, at):
            found.add(row)
            continue
        for deed, line, held, truths in one_on(plain, lines, at, flags, row[-1]):
            after = (row if deed is None else row + (deed, truths)), line, held
            if after not in seen and len(after[0]) <= 2 * limit + 1:
                seen.add(after)
                begun.append(after)
    return found


def visited(plain, lines, starts):
    """All triples (line, flags, truths) to which walks come that begin with some truths."""
    queue = [(0, frozenset(), truths) for truths in starts]
    seen = set(queue)
    for at, flags, truths in queue:
        if not is_end(lines, at):
            for _, *after in one_on(plain, lines, at, flags, truths):
                if tuple(after) not in seen:
                    seen.add(tuple(after))
                    queue.append(tuple(after))
    return seen


def decided_lines(plain, lines):
    answers = {}
    for at, flags, truths in visited(plain, lines, all_truths(plain[0])):
        if at < len(lines) and lines[at][0] in ("check", "if", "flag"):
            word, thing = lines[at][:2]
            answers.setdefault(at, set()).add(thing in flags if word == "flag" else thing.holds(truths))
    return [(at, answers[at] == {True}) for at in sorted(answers) if len(answers[at]) == 1]


def program_cases(seed, many, most=9):
    chance = chances(seed)
    for _ in range(many):
        plain = random_book(chance, *chance.choice(SHAPES), chance.choice([0.4, 0.7, 1.0]))
        yield chance, plain, book_of(plain), random_lines(chance, plain, most)


class Walks(unittest.TestCase):
    def check_flow(self, plain, lines, flow):
        limit = {0: 4, 1: 3, 2: 2}[len(plain[0])]
        wanted = walk_rows(plain, lines, limit)
        told = {row for length in range(limit + 1) for row in flow.rows(length)}
        self.assertEqual(told, wanted, (plain, lines))

    def test_flows(self):
        for _, plain, book, lines in program_cases(111, 300):
            self.check_flow(plain, lines, Program(book, lines).flow())

    def test_known_and_dead_and_decided(self):
        answers = 0
        for chance, plain, book, lines in program_cases(112, 300):
            program = Program(book, lines)
            every = all_truths(plain[0])
            some = [truths for truths in every if chance.random() < 0.5]
            seen = visited(plain, lines, some)
            wanted = [say_of(plain[0], sorted({truths for line, _, truths in seen if line == at}))
                      for at in range(len(lines) + 1)]
            self.assertEqual(program.known(say_of(plain[0], some)), wanted)
            come = {at for at, _, _ in visited(plain, lines, every)}
            self.assertEqual(program.dead(), [at for at in range(len(lines)) if at not in come])
            self.assertEqual(program.decided(), decided_lines(plain, lines))
            answers += len(program.decided())
        self.assertGreater(answers, 100)

    def test_clean(self):
        for _, plain, book, lines in program_cases(113, 300):
            program = Program(book, lines)
            clean = program.clean()
            self.assertEqual((clean.dead(), clean.decided()), ([], []), lines)
            self.assertEqual(clean.flow(), program.flow(), lines)
            self.assertEqual(clean.book, book)
            self.check_flow(plain, clean.lines(), clean.flow())
            come = {at for at, _, _ in visited(plain, clean.lines(), all_truths(plain[0]))}
            self.assertTrue(come >= set(range(len(clean))))
            self.assertEqual(decided_lines(plain, clean.lines()), [])
            self.assertEqual(program.lines(), lines)

    def test_program_of(self):
        for _, plain, _, [(_, flow)] in flow_cases(114, 120, 1):
            program = program_of(flow)
            self.assertEqual(program.flow(), flow)
            self.assertEqual(program.book, flow.book)
            self.assertFalse([line for line in program.lines() if line[0] in ("set", "flag")])
            self.check_flow(plain, program.lines(), flow)
            self.assertEqual(program.clean().flow(), flow)
            self.assertEqual((program.clean().dead(), program.clean().decided()), ([], []))

    def test_one_behind_another(self):
        for chance, plain, book, lines in program_cases(115, 200, 6):
            one = Program(book, lines)
            other = Program(book, random_lines(chance, plain, 6))
            both = one + other
            self.assertIsInstance(both, Program)
            self.assertEqual(both.flow(), one.flow() >> other.flow(), (lines, other.lines()))
            self.check_flow(plain, both.lines(), both.flow())
            self.assertEqual(one, Program(book, lines))
            third = Program(book, random_lines(chance, plain, 4))
            self.assertEqual(((one + other) + third).flow(), (one + (other + third)).flow())
            self.assertEqual((both + both).clean().flow(), both.flow() >> both.flow())


class Lines(unittest.TestCase):
    def setUp(self):
        self.book = Book(["a", "b"], ["d", "e"], [(A, "d", A)])

    def bad(self, index, lines):
        with self.assertRaises(BadLine) as caught:
            Program(self.book, lines)
        self.assertEqual(caught.exception.index, index)

    def test_kinds(self):
        lines = [("do", "d"), ["check", A], ("if", A | B, 0), ["jump", 5], ("either", 8), ["set", "f", True],
                 ("flag", "d", 7), ["end"]]
        program = Program(lines=tuple(lines), book=self.book)
        self.assertEqual(program.lines(), [tuple(line) for line in lines])
        self.assertIs(program.book, self.book)
        self.assertEqual(len(program), 8)
        lines[1][1] = B
        lines.clear()
        self.assertEqual(program.lines()[1], ("check", A))
        program.lines().clear()
        self.assertEqual(len(program.lines()), 8)

    def test_no_lines(self):
        for lines in ([], ()):
            program = Program(self.book, lines)
            self.assertEqual((len(program), program.lines(), program.dead(), program.decided()), (0, [], [], []))
            self.assertEqual(program.flow(), Flow.skip(self.book))
            self.assertEqual(program.known(A), [A])
            self.assertEqual((program + program).flow(), Flow.skip(self.book))
            self.assertEqual(program.clean().flow(), Flow.skip(self.book))

    def test_bad_lines(self):
        good = ("do", "d")
        for thing in odd_things() + [
                (), ("do",), ("do", "d", "d"), ("do", "a"), ("do", "f"), ("do", None), ("do", ["d"]), ("do", A),
                ("check",), ("check", "a"), ("check", Say.test("z")), ("check", None), ("check", A, 1),
                ("if", A), ("if", A, 3), ("if", A, -1), ("if", A, True), ("if", Say.test("d"), 0), ("if", 0, A),
                ("if", A, 0, 0), ("jump",), ("jump", 3), ("jump", "0"), ("jump", False), ("jump", None), ("jump", 0, 0),
                ("either",), ("either", 3), ("either", -1), ("either", [0]), ("set", "f"), ("set", "f", 1),
                ("set", "f", 0), ("set", "f", None), ("set", "F", True), ("set", "", True), ("set", 1, True),
                ("set", ["f"], True), ("flag", "f"), ("flag", "f", 3), ("flag", "abcdefghi", 0), ("flag", "f", True),
                ("flag", None, 0), ("end", None), ("END",), ("stop",), (None,), ([],), ((),), "end", {"end": 1}, [("end",)]]:
            self.bad(0, [thing, thing])
            self.bad(1, [good, thing])
            self.bad(1, (good, thing))
        for thing in [None, 0, "", "do d", {}, {0: good}, A, self.book, Program(self.book, [])]:
            self.bad(0, thing)

    def test_where_lines_lead(self):
        for word in (("jump",), ("either",), ("if", A), ("flag", "f")):
            Program(self.book, [("end",), word + (2,)])
            Program(self.book, [("end",), word + (0,)])
            self.bad(1, [("end",), word + (3,)])
        Program(self.book, [("jump", 1)])

    def test_twenty_lines(self):
        line = ("end",)
        self.assertEqual(len(Program(self.book, [line] * 20)), 20)
        self.bad(20, [line] * 21)
        self.bad(20, [line] * 20 + [None])
        self.bad(19, [line] * 19 + [None] + [line] * 5)
        self.bad(20, [("jump", 25)] + [line] * 24)
        self.bad(0, [("jump", 26)] + [line] * 24)

    def test_three_flags(self):
        three = [("set", "f", True), ("flag", "g", 0), ("flag", "h", 0)]
        Program(self.book, three + three)
        Program(self.book, [("set", "a", True), ("flag", "d", 0), ("flag", "a", 0)])
        self.bad(3, three + [("set", "i", True), None])
        self.bad(4, three + [("set", "f", True), ("flag", "i", 0)])
        self.bad(3, three + [("set", "I", True)])

    def test_equal(self):
        lines = [("do", "d"), ("check", A & B), ("set", "f", True), ("flag", "f", 1)]
        program = Program(self.book, lines)
        self.assertEqual(program, Program(Book(["b", "a"], ["e", "d"], [(A, "d", A), (A, "d", A)]),
                                          tuple(list(line) for line in lines[:1]) + tuple(lines[1:])))
        self.assertEqual(program, Program(self.book, [lines[0], ("check", ~(~A | ~B))] + lines[2:]))
        for other in (lines[:3], lines[::-1], [("do", "e")] + lines[1:], lines[:2] + [("set", "f", False), lines[3]]):
            self.assertIs(program == Program(self.book, other), False)
            self.assertIs(program != Program(self.book, other), True)
        self.assertIs(program == Program(Book(["a", "b"], ["d", "e"]), lines), False)
        # Programs with the same flow need not be equal.
        self.assertIs(Program(self.book, []) == Program(self.book, [("end",)]), False)
        for thing in odd_things() + [lines, tuple(lines), program.flow()]:
            self.assertIs(program == thing, False)


class ByHand(unittest.TestCase):
    def setUp(self):
        self.book = Book(["a", "b"], ["d", "e"], [(A, "d", ~A)])
        self.d, self.e = Flow.deed(self.book, "d"), Flow.deed(self.book, "e")

    def test_a_loop(self):
        program = Program(self.book, [("if", ~A, 3), ("do", "d"), ("jump", 0), ("do", "e")])
        self.assertEqual(program.flow(), whilst(A, self.d) >> self.e)
        self.assertEqual(program.known(A), [Say.yes(), A, ~A, ~A, Say.yes()])
        self.assertEqual(program.known(say=Say.no()), [Say.no()] * 5)
        self.assertEqual((program.dead(), program.decided()), ([], []))

    def test_flags(self):
        lines = [("flag", "f", 4), ("do", "d"), ("set", "f", True), ("jump", 0), ("do", "e"), ("set", "f", False),
                 ("flag", "f", 0), ("flag", "g", 0)]
        program = Program(self.book, lines)
        self.assertEqual(program.flow(), self.d >> self.e)
        self.assertEqual(program.decided(), [(6, False), (7, False)])
        self.assertEqual((program + program).flow(), self.d >> self.e >> self.d >> self.e)
        # The flag that the first one leaves set is not set for the second one.
        left = Program(self.book, [("flag", "f", 3), ("do", "d"), ("set", "f", True)])
        self.assertEqual((left + left).flow(), self.d >> self.d)
        unlike = Program(self.book, [("flag", "g", 3), ("do", "d"), ("set", "h", True), ("set", "i", True)])
        self.assertEqual(((left + unlike) + (unlike + left)).flow(), self.d ** 4)

    def test_loops_without_deeds(self):
        self.assertEqual(Program(self.book, [("jump", 0)]).flow(), Flow.stop(self.book))
        program = Program(self.book, [("either", 0), ("either", 0), ("set", "f", True), ("flag", "g", 0), ("do", "d")])
        self.assertEqual(program.flow(), self.d)
        self.assertEqual(program.decided(), [(3, False)])
        self.assertEqual(Program(self.book, [("if", A, 0)]).flow(), Flow.check(self.book, ~A))

    def test_decided_and_dead(self):
        program = Program(self.book, [("check", A), ("do", "d"), ("if", A, 0), ("check", ~A), ("check", Say.no()),
                                      ("do", "e"), ("end",)])
        self.assertEqual(program.decided(), [(2, False), (3, True), (4, False)])
        self.assertEqual(program.dead(), [5, 6])
        self.assertEqual(program.clean().flow(), Flow.stop(self.book))
        program = Program(self.book, [("jump", 2), ("do", "e"), ("do", "d"), ("if", Say.yes(), 5), ("do", "e")])
        self.assertEqual((program.dead(), program.decided()), ([1, 4], [(3, True)]))
        self.assertEqual(program.clean().flow(), self.d)
        for told in (program.dead(), program.decided(), program.known(A)):
            told.clear()
        self.assertEqual((program.dead(), program.decided()), ([1, 4], [(3, True)]))

    def test_longer_ones(self):
        program = Program(self.book, [("either", 0), ("set", "f", True), ("flag", "f", 3)] + [("end",)] * 17)
        both = program + Program(self.book, [("set", name, True) for name in ("g", "h", "i")])
        self.assertEqual(len(both), 23)
        self.assertEqual(both.flow(), Flow.skip(self.book))
        self.assertRaises(BadLine, Program, self.book, both.lines())
        self.assertEqual(len(both.known(A)), 24)
        kept = program
        program += program
        self.assertEqual(len(kept), 20)
        self.assertEqual(program.flow(), Flow.skip(self.book))

    def test_errors(self):
        program = Program(self.book, [("do", "d")])
        with self.assertRaises(NoTest) as caught:
            program.known(Say.test("z") & Say.test("y") & A)
        self.assertEqual(caught.exception.name, "y")
        for book in (Book(["a", "b"], ["d", "e"]), Book(["a", "b"], ["d"]), Book(["a"], ["d", "e"])):
            self.assertRaises(UnlikeBooks, lambda: program + Program(book, []))
            self.assertRaises(UnlikeBooks, lambda: Program(book, []) + program)
        self.assertEqual(program_of(flow=self.d).flow(), self.d)
        self.assertEqual(program_of(Flow.stop(self.book)).flow(), Flow.stop(self.book))


if __name__ == "__main__":
    unittest.main()
