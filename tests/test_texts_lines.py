"""[40], [41]: texts of books and programs, word for word, and the numbers of lines that are wrong."""

import unittest

from deedmeanings.books import Book
from deedmeanings.errors import BadLine
from deedmeanings.flows import Flow
from deedmeanings.programs import Program, program_of
from deedmeanings.says import Say
from deedmeanings.texts import read_book, read_program, write_book, write_program

from tests.plain import all_truths, book_of, chances, random_book, say_of
from tests.test_programs import random_lines
from tests.test_texts_says import text_of
from tests.things import SHAPES, flow_cases, odd_things

A, B, X = Say.test("a"), Say.test("b"), Say.test("x")


def book_text(plain):
    """The text of a plain book, told by its steps alone."""
    tests, deeds, lets = plain
    every = all_truths(tests)
    lines = [" ".join(["tests", *sorted(tests)]), " ".join(["deeds", *sorted(deeds)])]
    for deed in sorted(deeds):
        seen = []
        for truths in every:
            behind = lets[truths, deed]
            if behind != set(every) and behind not in seen:
                seen.append(behind)
                alike = [first for first in every if lets[first, deed] == behind]
                lines.append(f"promise {deed} : {text_of(sorted(tests), alike)} -> "
                             f"{text_of(sorted(tests), [last for last in every if last in behind])}")
    return "".join(line + "\n" for line in lines)


def other_say(chance, text):
    """Another text of the say that a text tells."""
    return chance.choice([text, f"({text})", f"~(~({text}))", f"0|{text}", f"({text}) & (z | ~z)", f"1  &({text})",
                          f"({text})^0", f"z & ~z | {text}"])


class Books(unittest.TestCase):
    def check(self, text, index):
        with self.assertRaises(BadLine, msg=repr(text)) as caught:
            read_book(text)
        self.assertEqual(caught.exception.index, index, repr(text))

    def test_word_for_word(self):
        chance = chances(221)
        for _ in range(80):
            plain = random_book(chance, *chance.choice(SHAPES), chance.choice([0.3, 0.6, 0.9, 1.0]))
            book = book_of(plain)
            text = write_book(book)
            self.assertEqual(text, book_text(plain))
            self.assertEqual(read_book(text), book)
            # Told in another order and by other says.
            tests, deeds, *promises = [line.split(" ") for line in text.split("\n")[:-1]]
            for names in (tests, deeds):
                rest = names[1:]
                chance.shuffle(rest)
                names[1:] = rest
            chance.shuffle(promises)
            lines = [" ".join(tests), " ".join(deeds)]
            for words in promises:
                head, both = " ".join(words).split(" : ")
                before, behind = both.split(" -> ")
                lines.append(f"{head} : {other_say(chance, before)} -> {other_say(chance, behind)}")
            self.assertEqual(read_book("".join(line + "\n" for line in lines)), book)

    def test_by_hand(self):
        ready, new = Say.test("ready"), Say.test("new")
        book = Book(["ready", "new"], ["wait", "send"], [(ready, "send", ready & ~new)])
        text = "tests new ready\ndeeds send wait\npromise send : ready -> ~new & ready\n"
        self.assertEqual(write_book(book=book), text)
        self.assertEqual(read_book(text=text), book)
        self.assertEqual(read_book("tests ready new\ndeeds wait send\npromise send : ready -> ready & ~new\n"), book)
        self.assertEqual(write_book(Book([], ["d"])), "tests\ndeeds d\n")
        self.assertEqual(read_book("tests\ndeeds d\n"), Book([], ["d"]))
        self.assertEqual(write_book(Book([], ["d"], [(Say.yes(), "d", Say.no())])), "tests\ndeeds d\npromise d : 1 -> 0\n")
        # Promises that say nothing, that stand twice, or that others tell may stand, too.
        self.assertEqual(read_book("tests a\ndeeds d\npromise d : a -> 1\npromise d : a -> a\npromise d : a -> a\n"),
                         Book(["a"], ["d"], [(A, "d", A)]))
        # Words of lines are names like others.
        text = "tests promise tests\ndeeds deeds to\npromise deeds : promise -> tests\n"
        self.assertEqual(read_book(text), Book(["tests", "promise"], ["to", "deeds"],
                                               [(Say.test("promise"), "deeds", Say.test("tests"))]))
        most = Book(["a", "b", "c", "abcdefgh"], ["d", "e", "f", "g", "h"], [(A ^ B, "h", Say.test("c"))])
        self.assertEqual(read_book(write_book(most)), most)

    def test_wrong_heads(self):
        for line in ("", " tests", "tests ", "tests  a", "tests a ", "test a", "Tests a", "testsa", "tests a a", "tests A",
                     "tests a,b", "tests a b c d e", "tests abcdefghi", "tests a\tb", "deeds d", "tests a:", "tests 1",
                     "tests -> a", "tests a b a"):
            self.check(line + "\ndeeds d\n", 0)
        for line in ("", "deeds", "deeds ", " deeds d", "deeds  d", "deeds d ", "deed d", "deeds d d", "deeds a",
                     "deeds d a", "deeds D", "deeds d e f g h i", "deeds abcdefghi", "tests d", "deeds d,e", "deeds 1",
                     "promise d : a -> a", "deeds d\te", "deedsd"):
            self.check("tests a b\n" + line + "\n", 1)
            self.check("tests a b\n" + line + "\npromise d : q -> \n", 1)

    def test_wrong_promises(self):
        good = "promise d : a -> b\n"
        for line in ("", " ", "promise", "promise d", "promise d : a", "promise d : a ->", "promise d : a -> ",
                     "promise d :  -> b", "promise d : -> b", "promise d: a -> b", "promise d :a -> b", "promise d : a->b",
                     "promise d : a  -> b", "promise d : a ->  b", "promise d :  a -> b", "promise  d : a -> b",
                     " promise d : a -> b", "promise d : a -> b ", "promise d  : a -> b", "promise f : a -> b",
                     "promise a : a -> b", "promise D : a -> b", "promise d : q -> b", "promise d : a -> q",
                     "promise d : a -> d", "promise d : a b -> b", "promise d : a -> b -> a", "promise d : a : b -> a",
                     "promise d e : a -> b", "promise : a -> b", "Promise d : a -> b", "promise d : a - > b",
                     "promise d : (a -> b)", "promise d : a -> b\t", "promise d : a => b", "d : a -> b", "tests a b",
                     "deeds d", "promise d : abcdefghi -> a", "promise d : a -> [b]", "promise d : a |q -> 1"):
            self.check("tests a b\ndeeds d e\n" + line + "\n", 2)
            self.check("tests a b\ndeeds d e\n" + good + good + line + "\n" + line + "\n", 4)
            self.check("tests a b\ndeeds d e\n" + good + line + "\n" + good[:-1], 3)

    def test_missing_lines_and_line_feeds(self):
        for text, index in (("", 0), ("tests a", 0), ("tests a\n", 1), ("tests a\ndeeds d", 1), ("\n", 0), ("\n\n", 0),
                            ("tests a\ndeeds d\npromise d : a -> a", 2), ("tests a\ndeeds d\n ", 2),
                            ("tests a\ndeeds d\n\n", 2), ("tests a\ndeeds d\npromise d : a -> a\n\n", 3),
                            ("tests a\ndeeds d\npromise d : a -> a\nx", 3), ("tests a a", 0), ("tests a a\n", 0),
                            ("tests a\ndeeds a", 1), ("deeds d\ntests a\n", 0), ("tests a\ndeeds\npromise", 1),
                            ("tests a deeds d", 0), ("tests a\r\ndeeds d\n", 0)):
            self.check(text, index)

    def test_objects_that_are_no_strings(self):
        for thing in odd_things() + [b"tests\ndeeds d\n", ["tests", "deeds d"], ("tests\n",)]:
            self.check(thing, 0)


def line_text(line, say=lambda some: "1"):
    """The text that a line has to have."""
    word, *rest = line
    return {"do": lambda: f"do {rest[0]}", "check": lambda: f"check {say(rest[0])}",
            "if": lambda: f"if {say(rest[0])} go {rest[1]}", "jump": lambda: f"jump {rest[0]}",
            "either": lambda: f"either {rest[0]}", "set": lambda: f"set {rest[0]} {'yes' if rest[1] else 'no'}",
            "flag": lambda: f"flag {rest[0]} go {rest[1]}", "end": lambda: "end"}[word]()


def told(tests, some):
    return text_of(tests, [true for true in all_truths(tests) if some.holds(true)])


class Programs(unittest.TestCase):
    def setUp(self):
        self.book = Book(["a", "go"], ["d", "end"])

    def check(self, text, index):
        with self.assertRaises(BadLine, msg=repr(text)) as caught:
            read_program(self.book, text)
        self.assertEqual(caught.exception.index, index, repr(text))

    def test_word_for_word(self):
        chance = chances(222)
        kinds = set()
        for _ in range(80):
            plain = random_book(chance, *chance.choice(SHAPES), 0.8)
            book = book_of(plain)
            tests = sorted(plain[0])
            lines = random_lines(chance, plain, 1 + chance.randrange(20))
            kinds |= {line[0] for line in lines}
            program = Program(book, lines)
            text = write_program(program)
            self.assertEqual(text, "".join(line_text(line, lambda some: told(tests, some)) + "\n" for line in lines))
            self.assertEqual(read_program(book, text), program)
            others = [line_text(line, lambda some: other_say(chance, told(tests, some))) + "\n" for line in lines]
            self.assertEqual(read_program(book, "".join(others)), program)
        self.assertEqual(len(kinds), 8)

    def test_by_hand(self):
        a, go = Say.test("a"), Say.test("go")
        lines = [("if", go, 3), ("if", a & go, 12), ("flag", "go", 0), ("set", "go", True), ("set", "yes", False),
                 ("check", go | ~a), ("do", "end"), ("do", "d"), ("jump", 10), ("either", 0), ("flag", "end", 2), ("end",)]
        text = ("if go go 3\nif a & go go 12\nflag go go 0\nset go yes\nset yes no\ncheck ~a | go\ndo end\ndo d\njump 10\n"
                "either 0\nflag end go 2\nend\n")
        self.assertEqual(write_program(program=Program(self.book, lines)), text)
        self.assertEqual(read_program(book=self.book, text=text).lines(), lines)
        self.assertEqual(read_program(self.book, "if go&(go) go 1\nset set no\n").lines(),
                         [("if", go, 1), ("set", "set", False)])
        self.assertEqual(write_program(Program(self.book, [])), "")
        self.assertEqual(read_program(self.book, ""), Program(self.book, []))
        self.assertEqual(read_program(self.book, "end\n" * 20).lines(), [("end",)] * 20)
        self.assertEqual(read_program(self.book, "check z | ~z\n").lines(), [("check", Say.yes())])

    def test_wrong_lines(self):
        wrong = ["", " ", "do", "do ", "do f", "do a", " do d", "do  d", "do d ", "do d d", "Do d", "dod", "check",
                 "check ", "check  a", "check a ", "check q", "check d", "check a a", "check a |", "if", "if a", "if a go",
                 "if a go ", "if go 1", "if  go 1", "if a go  1", "if a  go 1", "if a go 1 ", "if a go 01", "if a go -1",
                 "if a go +1", "if a go 1.0", "if a go x", "if a go 99", "if q go 1", "if a to 1", "if a go 1 go 1",
                 "if a, go 1", "jump", "jump ", "jump  1", "jump 1 ", "jump 00", "jump 01", "jump -1", "jump a", "jump 99",
                 "jump 1 1", "either", "either 99", "either 02", "either 1_0", "jump 1e0", "jump 0x1", "set f", "set f ",
                 "set", "set f true", "set f Yes", "set f yes ", "set f  yes", "set  f yes", "set F yes", "set f yes no",
                 "set abcdefghi yes", "set yes", "set f 1", "set f1 no", "flag f", "flag f go", "flag f go 99",
                 "flag f go 01", "flag f  go 1", "flag  f go 1", "flag f 1", "flag F go 1", "flag go 1", "flag f go 1 ",
                 "flag f g go 1", "end ", " end", "ends", "end 1", "end end", "END", "loop 1", "d", "go 1", "do\td",
                 "end\t", "jump 1\r", "check a -> go", "check [a]", "jump 99999999999999999999", "jump " + "9" * 999,
                 "jump " + "0" * 999]
        for line in wrong:
            self.check(line + "\n", 0)
            self.check("do d\n" + line + "\nend\n", 1)
            self.check("do d\nend\nset f yes\n" + line + "\nwrong\nflag f go 0", 3)

    def test_goals_flags_and_lengths(self):
        self.check("jump 2\n", 0)
        self.check("jump 1\njump 3\n", 1)
        self.assertEqual(len(read_program(self.book, "jump 1\njump 2\n")), 2)
        # A last line without a line feed is none of the program.
        self.check("jump 1\njump 1\nend", 2)
        self.check("jump 2\nend", 0)
        self.check("set a no\nset b no\nflag c go 0\nset a yes\nset d no\nwrong\n", 4)
        self.check("end\n" * 21, 20)
        self.check("end\n" * 20 + "wrong\n", 20)
        self.check("end\n" * 20 + "end", 20)
        self.check("end\n" * 25 + "jump 99\n", 20)
        self.check("end\n" * 19 + "jump 27\n" + "end\n" * 6, 19)
        self.check("end\n" * 19 + "jump 26\n" + "end\n" * 6, 20)
        self.assertEqual(len(read_program(self.book, "end\n" * 19 + "jump 20\n")), 20)

    def test_missing_line_feeds(self):
        for text, index in (("end", 0), ("do d\nend", 1), (" ", 0), ("do d\n ", 1), ("\n", 0), ("do d\n\n", 1),
                            ("wrong\nend", 0), ("do d\nwrong", 1), ("do d\nend\n\nend", 2)):
            self.check(text, index)

    def test_objects_that_are_no_strings(self):
        for thing in odd_things():
            if not isinstance(thing, str):
                self.check(thing, 0)
        for thing in (b"end\n", ["end"], ("end\n",), [("end",)]):
            self.check(thing, 0)

    def test_long_programs_are_written(self):
        for _, _, book, [(_, flow)] in flow_cases(223, 20, 1, 4):
            program = program_of(flow) + program_of(Flow.full(book))
            tests = book.tests()
            wanted = "".join(line_text(line, lambda some: told(tests, some)) + "\n" for line in program.lines())
            self.assertEqual(write_program(program), wanted)
            if len(program) > 20:
                with self.assertRaises(BadLine) as caught:
                    read_program(book, wanted)
                self.assertEqual(caught.exception.index, 20)
            else:
                self.assertEqual(read_program(book, wanted), program)


class Says(unittest.TestCase):
    def test_says_in_lines_have_no_space_around(self):
        book = Book(["x"], ["d"])
        for line in ("check x ", "check  x", "if  x go 0", "if x  go 0"):
            self.assertRaises(BadLine, read_program, book, line + "\n")
        self.assertEqual(read_program(book, "check x  |  x\n").lines(), [("check", X)])
        self.assertEqual(read_program(book, "check (x )\n").lines(), [("check", X)])
        self.assertEqual(say_of(("x",), [("x",)]), X)


if __name__ == "__main__":
    unittest.main()
