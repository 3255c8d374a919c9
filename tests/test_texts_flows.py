"""[39]: texts of flows: drawn trees, written with drawn parentheses and spaces, are read as the flows of the trees."""

import re
import unittest

from deedmeanings.books import Book
from deedmeanings.errors import BadText
from deedmeanings.flows import Flow, whilst
from deedmeanings.says import Say
from deedmeanings.texts import read_flow, write_flow

from tests.plain import all_truths, book_of, chances, flow_of, free_book, random_book, random_tree, rows_of
from tests.test_texts_says import Reading
from tests.things import SHAPES, flow_cases, odd_things

WORDS = (">>", ">>", "|")


def say_text_of(chance, tests, truths):
    """A text of a say that is true at some truths, told by all of them, or by all others."""
    def one(true):
        return " & ".join([("" if name in true else "~") + name for name in tests] or ["1"])
    others = [true for true in all_truths(tests) if true not in truths]
    if chance.random() < 0.5:
        return "|".join([one(true) for true in truths] or ["0"])
    return "~(" + " ^ ".join([one(true) for true in others] or ["0"]) + ")"


def written(chance, tree, tests, around=0):
    """A text that tells a tree; around tells how much what stands about it binds: 0 nothing, 1 +, 2 ;, 3 *."""
    def spaced(text):
        return " " * chance.choice([0, 0, 1, 2]) + text + " " * chance.choice([0, 1])
    word, *rest = tree
    level = 3
    if word == "deed":
        text = spaced(rest[0])
    elif word == "check":
        text = "[" + spaced(say_text_of(chance, tests, rest[0])) + "]"
    elif word in ("skip", "stop"):
        text = "[1]" if word == "skip" else "[ a ^ a ]"
    elif word == "often":
        text = written(chance, rest[0], tests, 3) + spaced("*")
    else:
        level, sign = (1, "+") if word == "|" else (2, ";")
        text = written(chance, rest[0], tests, level) + spaced(sign) + written(chance, rest[1], tests, level)
    if level < around or chance.random() < 0.15:
        text = spaced("(" + text + ")")
    return text


class Read(unittest.TestCase):
    def test_drawn_trees(self):
        chance = chances(211)
        for _ in range(150):
            tests, names = chance.choice(SHAPES)
            plain = random_book(chance, tests, names, chance.choice([0.4, 0.8, 1.0]))
            book = book_of(plain)
            tree = random_tree(chance, plain, chance.randrange(6), WORDS, ("often",))
            text = written(chance, tree, tests)
            flow = read_flow(book, text)
            self.assertEqual(flow, flow_of(tree, plain, book), text)
            for length in range(3):
                rows = sorted(row for row in rows_of(tree, plain, length) if len(row) // 2 == length)
                self.assertEqual(flow.rows(length), rows)

    def test_what_binds_most(self):
        book = Book(["x"], ["d", "e", "f"])
        d, e, f = [Flow.deed(book, name) for name in "def"]
        x = Flow.check(book, Say.test("x"))
        for text, flow in (("d", d), ("d;e", d >> e), ("d+e", d | e), ("d*", d.often()), ("d;e+f", d >> e | f),
                           ("d+e;f", d | e >> f), ("d;e*", d >> e.often()), ("(d;e)*", (d >> e).often()),
                           ("d+e*", d | e.often()), ("(d+e)*;f", (d | e).often() >> f), ("d;(e+f)", d >> (e | f)),
                           ("d**", d.often()), ("[x]*", Flow.skip(book)), ("[x];d", x >> d), ("[ x ]", x),
                           ("[~x|x]", Flow.skip(book)), ("[x & ~x]", Flow.stop(book)), ("[q | ~q];d", d),
                           ("[q & ~q | x]", x), (" ( ( d ) ) ", d), ("[x^1] + [(x)]", Flow.skip(book)),
                           ("d ; d ; d", d ** 3), ("d+d", d), ("[0]*", Flow.skip(book)), ("d * * ; e", d.often() >> e)):
            self.assertEqual(read_flow(text=text, book=book), flow, text)

    def test_the_example_and_names_like_signs(self):
        book = Book(["busy", "ready"], ["send", "wait"])
        send, wait = Flow.deed(book, "send"), Flow.deed(book, "wait")
        free = Flow.check(book, ~Say.test("busy"))
        self.assertEqual(read_flow(book, "(send ; [~busy])* + wait"), (send >> free).often() | wait)
        text = "([busy] ; wait)* ; [~busy] ; send"
        self.assertEqual(read_flow(book, text), whilst(Say.test("busy"), wait) >> send)

    def test_long_texts(self):
        book = book_of(free_book(("a", "b", "c", "x"), ("d", "e", "f", "g", "h")))
        d = Flow.deed(book, "d")
        self.assertEqual(read_flow(book, "d" + "*" * 1999), d.often())
        self.assertEqual(read_flow(book, "(" * 20 + "d" + ")" * 20), d)
        self.assertEqual(read_flow(book, "+".join(["[a]", "[b]"] * 249)), Flow.check(book, Say.test("a") | Say.test("b")))
        self.assertEqual(read_flow(book, ";".join(["[a]", "[x]*"] * 199)), Flow.check(book, Say.test("a")))
        self.assertEqual(read_flow(book, "d;" + "([a]*)*;" * 200 + "[1]"), d)
        self.assertEqual(read_flow(book, " " * 1999 + "d"), d)

    def test_wrong_texts(self):
        book = Book(["x"], ["d", "e"])
        texts = ["", " ", "f", "x", "~d", "d e", "d d", "d;", ";d", "d;;e", "d+", "+d", "d++e", "*", "*d", "d;*", "d(e)",
                 "(d", "d)", "()", "( )", "[]", "[ ]", "[x", "x]", "[x]]", "[[x]]", "[y]", "[x & y]", "[d]", "[x y]",
                 "[x];", "[x][x]", "d[x]", "[x]d", "d|e", "d&e", "d^e", "d ; ~e", "1", "0", "d1", "D", "d\n", "d\t;e",
                 "d;\ne", "d;[x", "d.e", "d,e", "(d;e", "d;e)", ")d(", "(*)", "(d;)*", "d*e", "d*(e)", "dd",
                 "abcdefghi", "[abcdefghi]", "[x;x]", "[x+x]", "[x*]", "d - e", "d >> e", "[x]->d", "(d)(e)", "[(x]",
                 "[x)]", "([x)]", "d+[y ^ x]", "[x\n]", "d;[~]", "[y | ~y & x]", "skip", "d ; [1", b"d", ["d"], ("d",)]
        for thing in odd_things() + texts:
            with self.assertRaises(BadText, msg=repr(thing)):
                read_flow(book, thing)

    def test_texts_that_were_spoilt(self):
        """Of texts with one letter more, less or otherwise: what is not read has a fault, and the rest has none."""
        chance = chances(212)
        book = Book(["x"], ["d", "e"])
        plain = (("x",), ("d", "e"), None)
        faults = 0
        for _ in range(600):
            text = written(chance, random_tree(chance, plain, chance.randrange(4), WORDS, ("often",)), ("x",))
            at = chance.randrange(len(text) + 1)
            piece = chance.choice(list("dexyz;;++*()[]~&|^01 \n"))
            text = chance.choice([text[:at], text[:at] + piece + text[at:], text[:at] + piece + text[at + 1:],
                                  text[:at] + text[at + 1:]])
            if is_text(text):
                self.assertEqual(read_flow(book, text), read_flow(book, "(" + text + ")"))
            else:
                faults += 1
                self.assertRaises(BadText, read_flow, book, text)
        self.assertGreater(faults, 200)


def is_text(text):
    """Whether a text tells a flow of a book with the test x and the deeds d and e, by putting shorter signs in.

    Spaces between signs are left out, checks and deeds become D, and what D is made of becomes D again.
    """
    parts = []
    while "[" in text:
        ahead, _, text = text.partition("[")
        check, bracket, text = text.partition("]")
        if not bracket or not is_say_text(check):
            return False
        parts += [ahead, " D "]
    text = " " + "".join(parts + [text]) + " "
    if "\n" in text or "]" in text:
        return False
    for sign in ";+*()":
        text = text.replace(sign, f" {sign} ")
    words = ["D" if word in ("d", "e", "D") else word for word in text.split()]
    return shortened(" ".join(words), [("( D )", "D"), ("D *", "D"), ("D ; D", "D"), ("D + D", "D")]) == "D"


def is_say_text(text):
    """Whether a text tells a say of which no test but x makes a difference."""
    try:
        tells = Reading(text).whole()
    except SyntaxError:
        return False
    every = all_truths(set(re.findall("[a-z]+", text)) | {"x"})
    return all(bool(tells(true)) == bool(tells([name for name in true if name == "x"])) for true in every)


def shortened(text, rules):
    before = None
    while text != before:
        before = text
        for old, new in rules:
            text = text.replace(old, new)
    return text


class Written(unittest.TestCase):
    def test_flows_are_read_again(self):
        for seed, deeds, words in ((213, 4, {}), (214, 7, {"words": WORDS, "others": ("often", "either", "whilst")})):
            for _, _, book, [(_, flow)] in flow_cases(seed, 80, 1, deeds, **words):
                for one in (flow, flow.often(), ~flow, flow.begun()):
                    text = write_flow(one)
                    self.assertIsInstance(text, str)
                    self.assertEqual(read_flow(book, text), one)
                    self.assertEqual(read_flow(book, "( " + text + " ) *"), one.often())

    def test_small_flows(self):
        for tests, names in SHAPES + [(("a", "b", "c", "x"), ("d", "e", "f", "g", "h"))]:
            book = Book(tests, names)
            for flow in (Flow.skip(book), Flow.stop(book), Flow.full(book), Flow.deed(book, "d"),
                         Flow.check(book, Say.test(tests[0]) if tests else Say.yes()), ~Flow.skip(book)):
                self.assertEqual(read_flow(text=write_flow(flow=flow), book=book), flow)

    def test_flows_of_stricter_books(self):
        x = Say.test("x")
        book = Book(["x"], ["d", "e"], [(x, "d", ~x), (Say.yes(), "e", x), (~x, "e", Say.no())])
        for text in ("d;e", "(d;e)*", "e;d;e", "d*", "(d+e)*", "[x];d", "e;e;d + [~x]"):
            flow = read_flow(book, text)
            self.assertEqual(read_flow(book, write_flow(flow)), flow)

    def test_large_flows(self):
        book = Book(["a", "b", "c", "x"], ["d"])
        far = Flow.full(book) >> Flow.check(book, Say.test("x")) >> Flow.deed(book, "d") ** 7
        for flow in (far, ~far, far.turned(), far.often(), far & ~far.turned()):
            self.assertEqual(read_flow(flow.book, write_flow(flow)), flow)
        plain = random_book(chances(215), ("a", "b", "c", "x"), ("d", "e", "f", "g", "h"), 0.6)
        book = book_of(plain)
        chance = chances(216)
        for _ in range(4):
            tree = random_tree(chance, plain, 10, (">>", ">>", "|", "-"), ("often", "~", "whilst", "either"))
            flow = flow_of(tree, plain, book)
            self.assertEqual(read_flow(book, write_flow(flow)), flow)

    def test_texts_of_any_length_are_read(self):
        book = Book(["x"], ["d", "e"])
        flow = read_flow(book, "(d ; [x])* + e")
        text = "; ".join(["((d ; [x])* + e)*", "[x | ~x]", "[1]"] * 1500)
        self.assertEqual(read_flow(book, text), flow.often())


if __name__ == "__main__":
    unittest.main()
