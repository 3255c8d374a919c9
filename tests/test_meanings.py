"""[23] to [25]: meanings, and what they lead by flows, against an independent way of putting runs together."""

import itertools
import unittest

from deedmeanings.books import Book
from deedmeanings.errors import (BadPromise, BadRow, BadSet, BadSize, BadWays, Broken, NoDeed, NoState, NoTest,
                                 UnlikeBooks)
from deedmeanings.flows import Flow
from deedmeanings.meanings import Meaning
from deedmeanings.says import Say

from tests.plain import book_of, chances, every_row, flow_of, random_book, random_tree, rows_of
from tests.things import SHAPES, flow_cases, odd_things

A, B = Say.test("a"), Say.test("b")


def random_meaning(chance, plain, size):
    """A random meaning that keeps the promises of a plain book, told as sets and ways."""
    tests, deeds, lets = plain
    sets = {name: [state for state in range(size) if chance.random() < 0.5] for name in tests}
    at = [tuple(name for name in sorted(tests) if state in sets[name]) for state in range(size)]
    ways = {deed: [(one, other) for one in range(size) for other in range(size)
                   if at[other] in lets[at[one], deed] and chance.random() < 0.5] for deed in deeds}
    return at, sets, ways


def walked(at, ways, row):
    """All pairs of the first and the last state of the runs of a row."""
    found = {(state, state) for state, truths in enumerate(at) if truths == row[0]}
    for deed, truths in zip(row[1::2], row[2::2]):
        found = {(first, there) for first, here in found for start, there in ways[deed]
                 if start == here and at[there] == truths}
    return found


def after(one, other):
    return {(first, last) for first, here in one for there, last in other if here == there}


def relation(tree, at, ways):
    """What a tree leads, put together of what its parts lead."""
    word, *rest = tree
    idle = {(state, state) for state in range(len(at))}
    if word == "deed":
        return set(ways[rest[0]])
    if word == "check":
        return {(state, state) for state, truths in enumerate(at) if truths in rest[0]}
    if word in ("skip", "stop"):
        return idle if word == "skip" else set()
    if word in ("either", "whilst"):
        yes = {(state, state) for state, truths in enumerate(at) if truths in rest[0]}
        first = after(yes, relation(rest[1], at, ways))
        if word == "either":
            return first | after(idle - yes, relation(rest[2], at, ways))
        return after(repeated(first, idle), idle - yes)
    parts = [relation(part, at, ways) for part in rest]
    if word == "often":
        return repeated(parts[0], idle)
    return parts[0] | parts[1] if word == "|" else after(*parts)


def repeated(pairs, idle):
    found = set(idle)
    while not after(found, pairs) <= found:
        found |= after(found, pairs)
    return found


class Making(unittest.TestCase):
    def setUp(self):
        self.book = Book(["b", "a"], ["e", "d"], [(A, "d", A)])
        self.sets = {"a": [1, 0, 1], "b": (2, 1)}
        self.ways = {"d": [(2, 0), [0, 1], (0, 1)], "e": ()}

    def raised(self, error, wanted, *passed):
        with self.assertRaises(error) as caught:
            Meaning(*passed)
        found = caught.exception.thing if error is BadSize else caught.exception.name
        self.assertIs(found, wanted)

    def test_ordinary(self):
        meaning = Meaning(self.book, 3, self.sets, self.ways)
        self.assertEqual(meaning.size, 3)
        self.assertIs(meaning.book, self.book)
        self.assertEqual([meaning.truths(state) for state in range(3)], [("a",), ("a", "b"), ("b",)])
        self.assertEqual(meaning.states(A | B), [0, 1, 2])
        self.assertEqual(meaning.states(say=A & ~B), [0])
        self.assertEqual(meaning.states(Say.no()), [])
        self.assertEqual(meaning.ways("d"), [(0, 1), (2, 0)])
        self.assertEqual(meaning.ways(deed="e"), [])
        self.assertEqual(meaning, Meaning(deeds=self.ways, tests=self.sets, size=3, book=self.book))

    def test_what_is_passed_is_copied(self):
        meaning = Meaning(self.book, 3, self.sets, self.ways)
        again = Meaning(self.book, 3, self.sets, self.ways)
        self.assertEqual(self.ways, {"d": [(2, 0), [0, 1], (0, 1)], "e": ()})
        self.sets["a"].clear()
        self.ways["d"][1][1] = 2
        self.ways["d"].pop(0)
        self.assertEqual(meaning, again)
        self.assertEqual(meaning.ways("d"), [(0, 1), (2, 0)])
        meaning.ways("d").clear()
        meaning.states(A).clear()
        self.assertEqual(meaning.ways("d"), [(0, 1), (2, 0)])
        self.assertEqual(meaning.states(A), [0, 1])

    def test_bad_sizes(self):
        for thing in [0, -1, True, False, None, "1", [1], {}, self.book]:
            self.raised(BadSize, thing, self.book, thing, None, None)

    def test_bad_sets(self):
        good = self.sets
        self.raised(BadSet, None, self.book, 3, [], self.ways)
        for thing in [None, "ab", 1, [("a", [])], Say.yes()]:
            self.raised(BadSet, None, self.book, 3, thing, None)
        for value in [None, 0, "0", {}, [3], [-1], [True], ["0"], [(0,)], [None], {0: 0}]:
            self.raised(BadSet, "a", self.book, 3, {"b": value, "a": value, "z": []}, None)
            self.raised(BadSet, "b", self.book, 3, {"z": [], "b": value, "a": []}, None)
        self.raised(BadSet, "a", self.book, 3, {}, None)
        self.raised(BadSet, "b", self.book, 3, {"z": [], "a": []}, None)
        for key in ["z", "d", 0, None, (), ("a",), True]:
            self.raised(BadSet, key, self.book, 3, {"a": [], key: [], "b": [], "zz": []}, None)
            self.raised(BadSet, key, self.book, 3, dict(good, **{"b": []}) | {key: None, "zz": []}, None)
        Meaning(Book([], ["d"]), 1, {}, {"d": []})

    def test_bad_ways(self):
        for thing in [None, "de", 1, [("d", [])], self.book]:
            self.raised(BadWays, None, self.book, 3, self.sets, thing)
        for value in [None, 0, "00", {}, [0, 0], [(0,)], [(0, 0, 0)], [(0, 3)], [(-1, 0)], [(True, 0)], [(0, "0")],
                      ["00"], [None], {(0, 0): 0}, [(0, 0), (0, None)]]:
            self.raised(BadWays, "d", self.book, 3, self.sets, {"e": value, "d": value, "z": []})
            self.raised(BadWays, "e", self.book, 3, self.sets, {"z": [], "e": value, "d": []})
        self.raised(BadWays, "d", self.book, 3, self.sets, {})
        for key in ["z", "a", 0, None, (), ("d",)]:
            self.raised(BadWays, key, self.book, 3, self.sets, {"d": [(0, 2)], key: [], "e": [], "zz": []})

    def test_the_first_promise_that_is_broken(self):
        for seed in range(80):
            chance = chances(seed)
            tests, deeds = chance.choice(SHAPES[1:])
            plain = random_book(chance, tests, deeds, 0.7)
            book = book_of(plain)
            at, sets, ways = random_meaning(chance, (tests, deeds, random_book(chance, tests, deeds, 0.95)[2]), 4)
            broken = [(before, deed, behind) for before, deed, behind in book.promises()
                      if any(before.holds(at[one]) and not behind.holds(at[other]) for one, other in ways[deed])]
            if not broken:
                meaning = Meaning(book, 4, sets, ways)
                self.assertTrue(all(meaning.keeps(promise) for promise in book.promises()))
                continue
            with self.assertRaises(Broken) as caught:
                Meaning(book, 4, sets, ways)
            self.assertEqual(caught.exception.promise, broken[0])
            free = Meaning(Book(tests, deeds), 4, sets, ways)
            self.assertEqual([free.keeps(promise) for promise in book.promises()],
                             [promise not in broken for promise in book.promises()])

    def test_errors_of_asking(self):
        meaning = Meaning(self.book, 3, self.sets, self.ways)
        for thing in [None, -1, 3, True, False, "0", [0], (), {}, self.book]:
            for call in (lambda: meaning.truths(thing), lambda: meaning.ends(Flow.skip(self.book), thing)):
                with self.assertRaises(NoState) as caught:
                    call()
                self.assertIs(caught.exception.thing, thing)
        for thing in [None, 0, "", "a", "f", ["d"], (), {}, A]:
            with self.assertRaises(NoDeed) as caught:
                meaning.ways(thing)
            self.assertIs(caught.exception.thing, thing)
        with self.assertRaises(NoTest) as caught:
            meaning.states(Say.test("z") & Say.test("y") | A)
        self.assertEqual(caught.exception.name, "y")
        for thing in [None, 0, "d", (), (A, "d"), (A, "d", A, A), (A, "a", A), (A, "d", Say.test("z")), (A, None, A),
                      ("a", "d", "a"), {}, (A, ["d"], A), A]:
            with self.assertRaises(BadPromise) as caught:
                meaning.keeps(thing)
            self.assertEqual(caught.exception.index, 0)
        self.assertIs(meaning.keeps(promise=[A, "d", B]), True)
        self.assertIs(meaning.keeps((B, "d", ~A)), False)

    def test_unlike_books(self):
        meaning = Meaning(self.book, 3, self.sets, self.ways)
        for other in (Book(["a"], ["d", "e"]), Book(["a", "b"], ["d"]), Book(["a", "c"], ["d", "e"])):
            self.assertRaises(UnlikeBooks, lambda: meaning.ends(Flow.skip(other), None))
            self.assertRaises(UnlikeBooks, lambda: meaning.leads(Flow.skip(other)))
        for other in (Book(["a", "b"], ["d", "e"]), self.book.more([(B, "d", Say.no())])):
            self.assertEqual(meaning.ends(state=2, flow=Flow.skip(other)), [2])
            self.assertEqual(meaning.leads(flow=Flow.skip(other)), [(0, 0), (1, 1), (2, 2)])
        # The flow has the rows of its own book alone.
        self.assertEqual(meaning.leads(Flow.deed(Book(["a", "b"], ["d", "e"]), "d")), [(0, 1), (2, 0)])
        self.assertEqual(meaning.leads(Flow.deed(self.book.more([(B, "d", Say.no())]), "d")), [(0, 1)])
        self.assertEqual(meaning.leads(Flow.deed(self.book.more([(A, "d", ~B)]), "d")), [(2, 0)])


class Equal(unittest.TestCase):
    def test_equal(self):
        book = Book(["a"], ["d"])
        one = Meaning(book, 2, {"a": [0]}, {"d": [(0, 1), (1, 1)]})
        self.assertEqual(one, Meaning(Book(["a"], ["d"]), 2, {"a": (0, 0)}, {"d": ([1, 1], (0, 1), (0, 1))}))
        for other in (Meaning(book, 3, {"a": [0]}, {"d": [(0, 1), (1, 1)]}),
                      Meaning(book, 2, {"a": [1]}, {"d": [(0, 1), (1, 1)]}),
                      Meaning(book, 2, {"a": [0]}, {"d": [(0, 1)]}),
                      Meaning(Book(["a"], ["d"], [(~A, "d", ~A)]), 2, {"a": [0]}, {"d": [(0, 1), (1, 1)]}),
                      Meaning(Book(["b"], ["d"]), 2, {"b": [0]}, {"d": [(0, 1), (1, 1)]})):
            self.assertIs(one == other, False)
            self.assertIs(one != other, True)
        for thing in odd_things():
            self.assertIs(one == thing, False)


class Rows(unittest.TestCase):
    def test_of_row(self):
        for _, plain, book, _ in flow_cases(71, 25, 0):
            for row in list(itertools.islice(every_row(plain, 2), 0, 40, 3)) + every_row(plain, 0):
                meaning = Meaning.of_row(book, row)
                size = len(row) // 2 + 1
                self.assertEqual(meaning.size, size)
                self.assertEqual([meaning.truths(state) for state in range(size)], list(row[::2]))
                self.assertEqual(sorted((one, other, deed) for deed in plain[1] for one, other in meaning.ways(deed)),
                                 [(state, state + 1, deed) for state, deed in enumerate(row[1::2])])
                self.assertEqual(meaning, Meaning.of_row(row=[list(one) if at % 2 == 0 else one
                                                              for at, one in enumerate(row)][:], book=book))

    def test_bad_rows(self):
        book = Book(["a", "b"], ["d"], [(A, "d", A)])
        self.assertEqual(Meaning.of_row(book, [["b", "a"], "d", ["a"]]).truths(0), ("a", "b"))
        for thing in odd_things() + [(("a",), "d", ()), ((), "d"), (), ((), "e", ()), ((), "d", ("a", "a"))]:
            if thing not in ([()], [[]]):
                with self.assertRaises(BadRow) as caught:
                    Meaning.of_row(book, thing)
                self.assertIs(caught.exception.thing, thing)

    def test_one_behind_another(self):
        for chance, plain, book, [(_, p)] in flow_cases(72, 60, 1):
            made = []
            for size in (1 + chance.randrange(8), 1 + chance.randrange(4)):
                at, sets, ways = random_meaning(chance, plain, size)
                made.append((size, sets, ways, Meaning(book, size, sets, ways)))
            (size, sets, ways, one), (more, other_sets, other_ways, other) = made
            both = one + other
            self.assertEqual(both, Meaning(book, size + more, {name: sets[name] + [size + state for state in other_sets[
                name]] for name in sets}, {deed: ways[deed] + [(size + a, size + b) for a, b in other_ways[deed]]
                                           for deed in ways}))
            self.assertEqual(both.leads(p), one.leads(p) + [(size + a, size + b) for a, b in other.leads(p)])
            self.assertEqual((both + one).size, 2 * size + more)
            self.assertEqual(one, Meaning(book, size, sets, ways))

    def test_unlike_books(self):
        book = Book(["a"], ["d"])
        one = Meaning.of_row(book, ((),))
        for other in (Book(["a"], ["d"], [(A, "d", A)]), Book(["a"], ["d", "e"]), Book(["b"], ["d"])):
            self.assertRaises(UnlikeBooks, lambda: one + Meaning.of_row(other, ((),)))
            self.assertRaises(UnlikeBooks, lambda: Meaning.of_row(other, ((),)) + one)
        kept = one
        one += one
        self.assertEqual((kept.size, one.size), (1, 2))


class Runs(unittest.TestCase):
    def test_part_by_part(self):
        words = {"words": (">>", ">>", "|"), "others": ("often", "either", "whilst")}
        for chance, plain, book, pairs in flow_cases(73, 120, 2, 4, **words):
            at, sets, ways = random_meaning(chance, plain, 1 + chance.randrange(8))
            meaning = Meaning(book, len(at), sets, ways)
            for tree, flow in pairs:
                wanted = relation(tree, at, ways)
                self.assertEqual(meaning.leads(flow), sorted(wanted), (plain, tree))
                for state in range(len(at)):
                    self.assertEqual(meaning.ends(flow, state), sorted(b for a, b in wanted if a == state))

    def test_row_by_row(self):
        words = {"others": ("back", "either")}
        for chance, plain, book, [(tree, flow)] in flow_cases(74, 120, 1, **words):
            at, sets, ways = random_meaning(chance, plain, 1 + chance.randrange(6))
            meaning = Meaning(book, len(at), sets, ways)
            wanted = set()
            for row in rows_of(tree, plain, 3):
                wanted |= walked(at, ways, row)
            self.assertEqual(meaning.leads(flow), sorted(wanted))

    def test_flows_of_another_book(self):
        for chance, plain, book, [(tree, _)] in flow_cases(75, 60, 1, others=("either",)):
            at, sets, ways = random_meaning(chance, plain, 4)
            other = random_book(chance, plain[0], plain[1], 0.6)
            flow = flow_of(tree, other, book_of(other))
            wanted = set()
            for row in rows_of(tree, other, 3):
                wanted |= walked(at, ways, row)
            self.assertEqual(Meaning(book, 4, sets, ways).leads(flow), sorted(wanted))

    def test_facts(self):
        for chance, plain, book, [(_, p), (_, q)] in flow_cases(76, 80, 2):
            at, sets, ways = random_meaning(chance, plain, 5)
            meaning = Meaning(book, 5, sets, ways)
            one, other = set(meaning.leads(p)), set(meaning.leads(q))
            self.assertEqual(set(meaning.leads(p >> q)), after(one, other))
            self.assertEqual(set(meaning.leads(p | q)), one | other)
            self.assertEqual(set(meaning.leads(p.often())), repeated(one, {(state, state) for state in range(5)}))
            self.assertTrue(set(meaning.leads(p & q)) <= one & other)
            self.assertTrue(not p <= q or one <= other)
            for row in [row for flow in (p - q, ~q) for length in range(2) for row in flow.rows(length)][:10]:
                self.assertNotIn((0, len(row) // 2), Meaning.of_row(book, row).leads(q))

    def test_the_limit(self):
        chance = chances(5)
        plain = random_book(chance, ("a", "b", "c", "x"), ("d", "e", "f", "g", "h"), 0.7)
        book = book_of(plain)
        at, sets, ways = random_meaning(chance, plain, 8)
        meaning = Meaning(book, 8, sets, ways)
        tree = random_tree(chance, plain, 10, (">>", "|"), ("often", "whilst"))
        flow = flow_of(tree, plain, book)
        self.assertEqual(meaning.leads(flow), sorted(relation(tree, at, ways)))
        self.assertEqual(len((meaning + meaning + meaning).leads(flow)), 3 * len(meaning.leads(flow)))


if __name__ == "__main__":
    unittest.main()
