"""[7], [8], [9]: says."""

import itertools
import unittest

from deedmeanings.books import Book
from deedmeanings.errors import BadName, BadTerm, BadTruth
from deedmeanings.flows import Flow
from deedmeanings.says import Say

from tests.plain import all_truths, chances, exactly

NAMES = ["a", "bb", "c", "dog", "e"]
NO_NAMES = ["", "A", "a b", "abcdefghi", "a1", "a_", "\u00e4", "\u03b1", 0, 1, True, None, ["a"], ("a",), {"a": "a"}, "a\n", " a"]


def random_tree(chance, names, size):
    if size == 0:
        return chance.choice([("test", name) for name in names] * 2 + [("yes",), ("no",)])
    word = chance.choice(["&", "|", "^", "~"])
    if word == "~":
        return word, random_tree(chance, names, size - 1)
    left = chance.randrange(size)
    return word, random_tree(chance, names, left), random_tree(chance, names, size - 1 - left)


def say_of(tree):
    word, *rest = tree
    if word == "test":
        return Say.test(rest[0])
    if word in ("yes", "no"):
        return Say.yes() if word == "yes" else Say.no()
    parts = [say_of(part) for part in rest]
    if word == "~":
        return ~parts[0]
    one, other = parts
    return one & other if word == "&" else one | other if word == "|" else one ^ other


def truth_of(tree, true):
    word, *rest = tree
    if word == "test":
        return rest[0] in true
    if word in ("yes", "no"):
        return word == "yes"
    parts = [truth_of(part, true) for part in rest]
    if word == "~":
        return not parts[0]
    return {"&": all(parts), "|": any(parts), "^": parts[0] != parts[1]}[word]


def choices(names):
    return all_truths(names)


def some_trees(seed, many, names=NAMES):
    chance = chances(seed)
    return [random_tree(chance, names[:chance.randrange(len(names)) + 1], chance.randrange(9)) for _ in range(many)]


def terms_by_looking(tree, names):
    """All prime terms, found by going through all terms."""
    def is_of(yes, no):
        return all(truth_of(tree, true) for true in choices(names)
                   if set(yes) <= set(true) and not set(no) & set(true))

    def shorter(yes, no):
        for name in yes:
            yield tuple(other for other in yes if other != name), no
        for name in no:
            yield yes, tuple(other for other in no if other != name)

    found = []
    for signs in itertools.product((None, True, False), repeat=len(names)):
        yes = tuple(sorted(name for name, sign in zip(names, signs) if sign is True))
        no = tuple(sorted(name for name, sign in zip(names, signs) if sign is False))
        if is_of(yes, no) and not any(is_of(*term) for term in shorter(yes, no)):
            found.append((yes, no))
    return sorted(found, key=lambda term: (len(term[0]) + len(term[1]), term))


class Holding(unittest.TestCase):
    def test_against_all_choices(self):
        for tree in some_trees(1, 150):
            say = say_of(tree)
            for true in choices(NAMES):
                self.assertIs(say.holds(true), truth_of(tree, true), tree)

    def test_the_simple_ones(self):
        for true in choices(["a", "b"]):
            self.assertIs(Say.yes().holds(true), True)
            self.assertIs(Say.no().holds(true), False)
            self.assertIs(Say.test("a").holds(true), "a" in true)

    def test_names_may_stand_twice_and_need_not_be_its_tests(self):
        say = Say.test("b") & ~Say.test("a")
        self.assertIs(say.holds(["b", "zz", "b", "zz"]), True)
        self.assertIs(say.holds(("b", "a", "a")), False)
        self.assertIs(say.holds([]), False)

    def test_names_of_one_to_eight_letters(self):
        for name in ["a", "z", "abcdefgh", "zzzzzzzz"]:
            self.assertEqual(Say.test(name).tests(), [name])

    def test_bad_names(self):
        say = Say.test("a")
        for thing in NO_NAMES:
            for call in (lambda: Say.test(thing), lambda: say.given(thing, True), lambda: say.some(thing),
                         lambda: say.every(thing), lambda: say.holds(["a", "q", thing, "", 5])):
                with self.assertRaises(BadName) as caught:
                    call()
                self.assertIs(caught.exception.name, thing)

    def test_bad_truths_of_given(self):
        for thing in [0, 1, None, "", "True", [], [True], {}, Say.yes()]:
            with self.assertRaises(BadTruth) as caught:
                Say.test("a").given("a", thing)
            self.assertIs(caught.exception.thing, thing)
            with self.assertRaises(BadTruth):
                Say.test("a").given("other", thing)
            with self.assertRaises(BadName):
                Say.test("a").given("A", thing)


class Tests(unittest.TestCase):
    def test_tests_are_those_that_make_a_difference(self):
        for tree in some_trees(2, 150):
            wanted = [name for name in sorted(NAMES) if any(
                truth_of(tree, true) != truth_of(tree, [other for other in true if other != name])
                for true in choices(NAMES))]
            self.assertEqual(say_of(tree).tests(), wanted, tree)

    def test_given_some_every(self):
        for tree in some_trees(3, 100):
            say = say_of(tree)
            for name in ["a", "dog", "zz"]:
                for true in choices(NAMES):
                    without = [other for other in true if other != name]
                    held, missed = truth_of(tree, without + [name]), truth_of(tree, without)
                    self.assertIs(say.given(name, True).holds(true), held)
                    self.assertIs(say.given(name, False).holds(true), missed)
                    self.assertIs(say.some(name).holds(true), held or missed)
                    self.assertIs(say.every(name).holds(true), held and missed)
                for made in (say.given(name, True), say.given(name, False), say.some(name), say.every(name)):
                    self.assertNotIn(name, made.tests())


class Comparing(unittest.TestCase):
    def test_equal_and_below(self):
        trees = some_trees(4, 30, NAMES[:3]) + some_trees(5, 10)
        tables = [[truth_of(tree, true) for true in choices(NAMES)] for tree in trees]
        for tree, table in zip(trees, tables):
            for other, seconds in zip(trees, tables):
                one, two = say_of(tree), say_of(other)
                below = all(second for first, second in zip(table, seconds) if first)
                self.assertIs(one == two, table == seconds)
                self.assertIs(one != two, table != seconds)
                self.assertIs(one <= two, below)
                self.assertIs(one < two, below and table != seconds)
                self.assertIs(one >= two, all(first for first, second in zip(table, seconds) if second))
                self.assertIs(one > two, two < one)

    def test_whatever_tests_they_were_made_of(self):
        a, b = Say.test("a"), Say.test("b")
        self.assertEqual(a & (b | ~b), a)
        self.assertEqual((a & b) | (a & ~b), a)
        self.assertEqual(a ^ a, Say.no())
        self.assertEqual(b | ~b, Say.yes())
        self.assertNotEqual(a, b)
        self.assertEqual((a ^ b) ^ b, a)

    def test_equal_to_nothing_else(self):
        for thing in [1, True, 0, False, None, "a", ["a"], ("a",), {}, Book(["a"], ["d"]),
                      Flow.skip(Book(["a"], ["d"]))]:
            for say in (Say.yes(), Say.no(), Say.test("a")):
                self.assertIs(say == thing, False)
                self.assertIs(thing == say, False)
                self.assertIs(say != thing, True)


class Terms(unittest.TestCase):
    def test_against_going_through_all(self):
        for tree in some_trees(6, 60, NAMES[:4]) + some_trees(7, 12):
            self.assertEqual(say_of(tree).terms(), terms_by_looking(tree, NAMES), tree)

    def test_edges(self):
        self.assertEqual(Say.no().terms(), [])
        self.assertEqual(Say.yes().terms(), [((), ())])
        self.assertEqual(Say.test("a").terms(), [(("a",), ())])
        self.assertEqual((~Say.test("a")).terms(), [((), ("a",))])
        odd = Say.test("a") ^ Say.test("b") ^ Say.test("c") ^ Say.test("d") ^ Say.test("e")
        self.assertEqual(len(odd.terms()), 16)

    def test_fewer_names_first_then_as_python_orders_them(self):
        a, b, c, d = (Say.test(name) for name in "abcd")
        self.assertEqual(((a & b) | c | (~a & ~d)).terms(),
                         [(("c",), ()), ((), ("a", "d")), (("a", "b"), ()), (("b",), ("d",))])

    def test_a_say_is_that_of_its_terms(self):
        for tree in some_trees(8, 60):
            say = say_of(tree)
            self.assertEqual(Say.of_terms(say.terms()), say)
            self.assertEqual(Say.of_terms([[list(yes), list(no)] for yes, no in say.terms()]), say)

    def test_of_terms_in_any_order(self):
        wanted = (Say.test("b") & Say.test("a") & ~Say.test("d") & ~Say.test("c")) | Say.test("e")
        self.assertEqual(Say.of_terms([(["b", "a"], ("d", "c")), [("e",), []], (("e",), ())]), wanted)
        self.assertEqual(Say.of_terms(()), Say.no())
        self.assertEqual(Say.of_terms([((), ())]), Say.yes())

    def test_bad_terms(self):
        good = (("a",), ("b",))
        bad = [None, 5, True, "ab", ("a", "b"), (("a",),), (("a",), ("b",), ()), (("a",), "b"), (("a", "a"), ()),
               ((), ("b", "b")), (("a",), ("a",)), (("A",), ()), ((), (1,)), ({"a": 1}, ()), [["a"], None],
               (("",), ()), {}, Say.test("a"), ((["a"],), ())]
        for thing in bad:
            for index in range(3):
                with self.assertRaises(BadTerm) as caught:
                    Say.of_terms([good] * index + [thing, None, good])
                self.assertEqual(caught.exception.index, index)

    def test_no_list_of_terms(self):
        for thing in [None, 5, True, "", "ab", {}, {0: (("a",), ())}, Say.yes()]:
            with self.assertRaises(BadTerm) as caught:
                Say.of_terms(thing)
            self.assertEqual(caught.exception.index, 0)


class Telling(unittest.TestCase):
    def test_by_name(self):
        say = Say.test(name="a") & Say.test(name="b")
        self.assertIs(say.holds(true=["a", "b"]), True)
        self.assertEqual(say.given(truth=True, name="a"), Say.test("b"))
        self.assertEqual(say.some(name="a"), Say.test("b"))
        self.assertEqual(say.every(name="a"), Say.no())
        self.assertEqual(Say.of_terms(terms=[(("a", "b"), ())]), say)

    def test_operators_change_nothing(self):
        a = Say.test("a")
        same = a
        a &= Say.test("b")
        a |= Say.test("c")
        a ^= Say.test("d")
        self.assertEqual(same, Say.test("a"))
        self.assertEqual(a, ((Say.test("a") & Say.test("b")) | Say.test("c")) ^ Say.test("d"))

    def test_what_is_returned_is_new(self):
        say = Say.test("a") & ~Say.test("b")
        say.tests().append("x")
        say.terms().clear()
        self.assertEqual(say.tests(), ["a", "b"])
        self.assertEqual(say.terms(), [(("a",), ("b",))])

    def test_what_is_passed_is_not_changed(self):
        terms = [[["b", "a"], ["c"]]]
        say = Say.of_terms(terms)
        self.assertEqual(terms, [[["b", "a"], ["c"]]])
        terms[0][0].append("d")
        terms.clear()
        self.assertEqual(say, exactly(["a", "b", "c"], ["a", "b"]))
        true = ["b", "a", "b"]
        say.holds(true)
        self.assertEqual(true, ["b", "a", "b"])


if __name__ == "__main__":
    unittest.main()
