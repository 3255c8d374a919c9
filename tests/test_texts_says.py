"""[38]: texts of says, against prime terms and a reading of texts that are found another way."""

import itertools
import string
import unittest

from deedmeanings.errors import BadText
from deedmeanings.says import Say
from deedmeanings.texts import read_say, write_say

from tests.plain import all_truths, chances, say_of
from tests.things import odd_things

NAMES = ["a", "b", "c", "d", "e"]


def prime_terms(names, truths):
    """All terms that hold at truths of a set alone, and of which no shorter one does so, in order."""
    every = all_truths(names)
    terms = []
    for signs in itertools.product((None, True, False), repeat=len(names)):
        yes = {name for name, sign in zip(names, signs) if sign}
        no = {name for name, sign in zip(names, signs) if sign is False}
        if all(true in truths for true in every if yes <= set(true) and not no & set(true)):
            terms.append((yes, no))
    primes = [(tuple(sorted(yes)), tuple(sorted(no))) for yes, no in terms
              if not any(one <= yes and two <= no and (one, two) != (yes, no) for one, two in terms)]
    return sorted(primes, key=lambda term: (len(term[0] + term[1]), term))


def text_of(names, truths):
    """The text that a say has to have that is true at just some truths."""
    if not truths:
        return "0"
    if len(truths) == 2 ** len(names):
        return "1"
    parts = []
    for yes, no in prime_terms(names, truths):
        parts.append(" & ".join(name if name in yes else "~" + name for name in sorted(yes + no)))
    return " | ".join(parts)


class Reading:
    """Reads a text letter by letter: what it tells is a function of true names, or an error."""

    def __init__(self, text):
        self.text = text
        self.at = 0

    def peek(self):
        while self.at < len(self.text) and self.text[self.at] == " ":
            self.at += 1
        return self.text[self.at] if self.at < len(self.text) else ""

    def whole(self):
        found = self.level(0)
        if self.peek():
            raise SyntaxError
        return found

    def level(self, depth):
        if depth == 3:
            return self.single()
        found = self.level(depth + 1)
        while self.peek() == "|^&"[depth]:
            self.at += 1
            found = self.join("|^&"[depth], found, self.level(depth + 1))
        return found

    @staticmethod
    def join(sign, one, other):
        if sign == "|":
            return lambda true: one(true) or other(true)
        if sign == "^":
            return lambda true: one(true) != other(true)
        return lambda true: one(true) and other(true)

    def single(self):
        letter = self.peek()
        self.at += 1
        if letter == "~":
            inner = self.single()
            return lambda true: not inner(true)
        if letter == "(":
            inner = self.level(0)
            if self.peek() != ")":
                raise SyntaxError
            self.at += 1
            return inner
        if letter in ("0", "1"):
            return lambda true: letter == "1"
        start = self.at - 1
        while self.at < len(self.text) and self.text[self.at] in string.ascii_lowercase:
            self.at += 1
        name = self.text[start:self.at]
        if not 1 <= len(name) <= 8 or not set(name) <= set(string.ascii_lowercase):
            raise SyntaxError
        return lambda true: name in true


def random_text(chance, depth, names=NAMES):
    """A text with spaces and parentheses at all places where they may stand."""
    space = " " * chance.choice([0, 0, 1, 2])
    if depth == 0:
        return space + chance.choice(names + ["0", "1"]) + space
    word = chance.choice(["~", "&", "^", "|", "()", "&", "^", "|"])
    if word == "()":
        return space + "(" + random_text(chance, depth - 1, names) + ")" + space
    if word == "~":
        return space + "~" + space + random_text(chance, depth - 1, names)
    return random_text(chance, depth - 1, names) + word + random_text(chance, depth - 1, names)


class Written(unittest.TestCase):
    def test_all_says_of_two_tests_and_random_ones(self):
        for count in (0, 1, 2):
            names = NAMES[:count]
            every = all_truths(names)
            for bits in range(2 ** len(every)):
                truths = [true for place, true in enumerate(every) if bits >> place & 1]
                self.assertEqual(write_say(say_of(names, truths)), text_of(names, truths))
        chance = chances(201)
        for count in (3, 3, 3, 4, 4, 5):
            names = NAMES[:count]
            for _ in range(12):
                share = chance.choice([0.2, 0.5, 0.8])
                truths = [true for true in all_truths(names) if chance.random() < share]
                say = say_of(names, truths)
                self.assertEqual(write_say(say), text_of(names, truths))
                self.assertEqual(read_say(write_say(say)), say)

    def test_by_hand(self):
        a, b, c = Say.test("a"), Say.test("b"), Say.test("c")
        for say, text in ((Say.yes(), "1"), (Say.no(), "0"), (a, "a"), (~a, "~a"), (a & ~b, "a & ~b"),
                          (~a & b, "~a & b"), (b & ~a | c, "c | ~a & b"), (a ^ b, "a & ~b | ~a & b"),
                          (a | ~a, "1"), (~(a & b), "~a | ~b"), (a & b | ~a & c, "a & b | b & c | ~a & c"),
                          (Say.test("ready") & ~Say.test("new"), "~new & ready"), (a | ~b, "~b | a")):
            self.assertEqual(write_say(say=say), text)
            self.assertEqual(read_say(text=text), say)


class Read(unittest.TestCase):
    def test_random_texts(self):
        chance = chances(202)
        for _ in range(400):
            text = random_text(chance, chance.randrange(5))
            wanted = Reading(text).whole()
            self.assertEqual(read_say(text), say_of(NAMES, [true for true in all_truths(NAMES) if wanted(true)]), text)

    def test_what_binds_most(self):
        a, b, c = Say.test("a"), Say.test("b"), Say.test("c")
        for text, say in (("~a & b", ~a & b), ("a | b & c", a | b & c), ("a ^ b & c", a ^ (b & c)),
                          ("a | b ^ c", a | (b ^ c)), ("a ^ b | c", (a ^ b) | c), ("a & b ^ c", (a & b) ^ c),
                          ("a & b | c", (a & b) | c), ("~a ^ b", ~a ^ b), ("~a | b", ~a | b), ("~~a", a),
                          ("~(a | b)", ~(a | b)), ("(a | b) & c", (a | b) & c), ("1 ^ a", ~a), ("0 | a", a),
                          ("  a  ", a), ("((a))", a), ("~ ~ a", a), ("abcdefgh", Say.test("abcdefgh")),
                          ("a&~b", a & ~b), ("a ^ a", Say.no()), ("x | ~x", Say.yes())):
            self.assertEqual(read_say(text), say, text)

    def test_long_texts(self):
        a = Say.test("a")
        self.assertEqual(read_say("~" * 1998 + "a"), a)
        self.assertEqual(read_say("~" * 1999 + "a"), ~a)
        self.assertEqual(read_say("(" * 20 + "a" + ")" * 20), a)
        self.assertEqual(read_say(" ^ ".join(["a"] * 499)), a)
        self.assertEqual(read_say("a|" * 999 + "b"), a | Say.test("b"))
        self.assertEqual(read_say(" " * 1999 + "a"), a)

    def test_wrong_texts(self):
        for thing in odd_things() + ["", " ", "a b", "a  b", "()", "( )", "(a", "a)", "a(b)", "~", "a~", "a~b", "&", "a&",
                                     "&a", "a&&b", "a|", "|a", "a^", "^", "a & | b", "2", "a1", "1a", "1 0", "01", "10",
                                     "abcdefghi", "abc defg hi", "A", "aB", "a\n", "\na", "a\t&b", "a\tb", "a & b\n",
                                     "a+b", "a;b", "[a]", "a*", "a -> b", "a_b", "a.b", "-a", "!a", "a%b",
                                     "a,b", "'a'", "a = b", ")a(", "(a))", "((a)", "a ~ b", "a ^^ b", "(~)", "(a|)",
                                     b"a", ["a"], ("a",), {"a": "a"}, Say.test("a")]:
            if thing == "zz":
                continue
            with self.assertRaises(BadText, msg=repr(thing)):
                read_say(thing)

    def test_texts_that_were_spoilt(self):
        chance = chances(203)
        wrong = 0
        for _ in range(1500):
            text = random_text(chance, 1 + chance.randrange(4), ["a", "b", "cc"])
            at = chance.randrange(len(text) + 1)
            piece = chance.choice(list("ab01~&^|() ()&~\n\t2A[];+*") + ["abcdefgh"])
            text = chance.choice([text[:at], text[:at] + piece + text[at:], text[:at] + piece + text[at + 1:],
                                  text[:at] + text[at + 1:]])
            try:
                wanted = Reading(text).whole()
            except SyntaxError:
                wrong += 1
                self.assertRaises(BadText, read_say, text)
                continue
            say = read_say(text)
            for true in all_truths(sorted(set(say.tests()) | {"a", "b", "cc"})):
                self.assertIs(say.holds(true), bool(wanted(true)), text)
        self.assertGreater(wrong, 300)


if __name__ == "__main__":
    unittest.main()
