"""[56] to [58]: systems of equations, against putting in again and again, from no rows and from all."""

import unittest

from deedmeanings.books import Book
from deedmeanings.errors import BadEquation, NoName
from deedmeanings.flows import Flow, whilst
from deedmeanings.programs import Program
from deedmeanings.says import Say
from deedmeanings.systems import System

from tests.plain import book_of, chances, every_row, flow_of, join_all, random_book, random_tree, rows_of
from tests.test_programs import random_lines
from tests.things import SHAPES, odd_things

LIMIT = 3
NAMES = ("p", "q", "r", "s")


def put_in(plain, equations, start):
    """What comes of rows of names, up to a length, by putting the right sides in until nothing changes."""
    known = {name: set(start) for name in equations}
    while True:
        more = {name: set().union(*(rows if target is None else join_all(rows, known[target], LIMIT)
                                    for rows, target in summands)) for name, summands in equations.items()}
        if more == known:
            return known
        known = more


def system_cases(seed, many):
    """Random systems: the plain book, equations of trees, and equations of flows."""
    chance = chances(seed)
    for _ in range(many):
        tests, deeds = chance.choice(SHAPES)
        plain = random_book(chance, tests, deeds, chance.choice([0.4, 0.7, 0.9, 1.0]))
        book = book_of(plain)
        names = NAMES[:1 + chance.randrange(4)]
        trees = {}
        for name in chance.sample(names, len(names)):
            trees[name] = [(random_tree(chance, plain, chance.choice([0, 0, 1, 1, 2])), chance.choice(names + (None,)))
                           for _ in range(chance.randrange(4))]
        yield chance, plain, book, trees, {name: [(flow_of(tree, plain, book), target) for tree, target in told]
                                           for name, told in trees.items()}


def right_side(book, summands, flows):
    found = Flow.stop(book)
    for flow, target in summands:
        found = found | (flow if target is None else flow >> flows[target])
    return found


class Solutions(unittest.TestCase):
    def test_putting_in_again_and_again(self):
        single, several = 0, 0
        for chance, plain, book, trees, equations in system_cases(291, 150):
            system = System(book, equations)
            rows = {name: [(rows_of(tree, plain, LIMIT), target) for tree, target in told]
                    for name, told in trees.items()}
            every = {row for length in range(LIMIT + 1) for row in every_row(plain, length)}
            least, greatest = put_in(plain, rows, ()), put_in(plain, rows, every)
            flows = {name: system.least(name) for name in equations}
            others = {name: system.greatest(name) for name in equations}
            self.assertEqual(system.unknowns(), sorted(equations))
            for name in equations:
                self.assertEqual(flows[name].book, book)
                for length in range(LIMIT + 1):
                    self.assertEqual(flows[name].rows(length), sorted(row for row in least[name] if len(row) // 2 == length))
                    self.assertEqual(others[name].rows(length),
                                     sorted(row for row in greatest[name] if len(row) // 2 == length))
            self.assertIs(system.solves(flows), True)
            self.assertIs(system.solves(others), True)
            self.assertIs(system.is_one(), flows == others)
            single += flows == others
            several += flows != others
        self.assertGreater(single, 40)
        self.assertGreater(several, 40)

    def test_solves(self):
        right, wrong = 0, 0
        for chance, plain, book, _, equations in system_cases(292, 100):
            system = System(book, equations)
            flows = {name: system.least(name) for name in equations}
            others = {name: system.greatest(name) for name in equations}
            some = flow_of(random_tree(chance, plain, 1), plain, book)
            for name in equations:
                for given in ({**flows, name: some}, {**others, name: some}, {**flows, name: ~flows[name]},
                              {**flows, name: others[name]}, {**others, name: flows[name]}):
                    wanted = all(right_side(book, told, given) == given[key] for key, told in equations.items())
                    self.assertIs(system.solves(given), wanted)
                    if wanted:
                        right += 1
                        # All solutions lie between the least one and the greatest one.
                        self.assertTrue(all(flows[key] <= given[key] <= others[key] for key in given))
                    wrong += not wanted
        self.assertGreater(right, 100)
        self.assertGreater(wrong, 100)

    def test_rings_of_names_that_do_nothing(self):
        book = Book(["x"], ["d"])
        d, x = Flow.deed(book, "d"), Flow.check(book, Say.test("x"))
        skip, stop, full = Flow.skip(book), Flow.stop(book), Flow.full(book)
        not_x = skip - x
        ring = System(book, {"p": [(skip, "q")], "q": [(skip, "p")]})
        self.assertEqual([ring.least("p"), ring.greatest("p")], [stop, full])
        self.assertIs(ring.is_one(), False)
        for flow in (stop, d, x, full):
            self.assertIs(ring.solves({"p": flow, "q": flow}), True)
        self.assertIs(ring.solves({"p": d, "q": x}), False)
        # A ring with checks that never hold together does nothing for ever nowhere.
        self.assertIs(System(book, {"p": [(x, "q")], "q": [(not_x, "p")]}).is_one(), True)
        half = System(book, {"p": [(x, "p"), (d, None)]})
        self.assertEqual([half.least("p"), half.greatest("p")], [d, d | x >> full])
        behind = System(book, {"p": [(d, "q")], "q": [(x | d >> d, "q"), (x, None)]})
        self.assertEqual(behind.greatest("p"), d >> (d >> d).often() >> x >> full)
        self.assertEqual(behind.least("p"), d >> (d >> d).often() >> x)
        # A ring may be come to by a name that is none of it.
        led = System(book, {"p": [(x, "q"), (skip, None)], "q": [(skip, "r")], "r": [(skip, "q"), (d, "p")]})
        self.assertEqual(led.greatest("p"), skip | x >> full)
        # There is a ring of names, but each step of it does something.
        done = System(book, {"p": [(d, "q"), (skip, None)], "q": [(d, "p")]})
        self.assertIs(done.is_one(), True)
        self.assertEqual(done.least("p"), (d >> d).often())
        # A ring that needs a row of length 0 where there are two ways.
        both = System(book, {"p": [(d, "p"), (x, "p"), (not_x, None)]})
        self.assertEqual(both.greatest("p"), d.often() >> (not_x | x >> full))

    def test_one_solution_though_there_is_a_ring_is_no_rule(self):
        """If there is a ring there may be several solutions, or one: where all is let anyway."""
        book = Book(["x"], ["d"])
        full, skip = Flow.full(book), Flow.skip(book)
        self.assertIs(System(book, {"p": [(skip, "p"), (full, None)]}).is_one(), True)
        self.assertIs(System(book, {"p": [(skip, "p"), (skip, None)]}).is_one(), False)

    def test_by_hand(self):
        book = Book(["busy"], ["send", "wait"], [(Say.yes(), "wait", ~Say.test("busy"))])
        busy = Say.test("busy")
        send, wait = Flow.deed(book, "send"), Flow.deed(book, "wait")
        system = System(equations={"p": [(Flow.check(book, busy) >> wait, "p"), (Flow.check(book, ~busy), "q")],
                                   "q": ((send, None),)}, book=book)
        self.assertEqual(system.book, book)
        self.assertEqual(system.unknowns(), ["p", "q"])
        self.assertEqual(system.least(name="p"), whilst(busy, wait) >> send)
        self.assertEqual(system.greatest(name="q"), send)
        self.assertIs(system.is_one(), True)
        self.assertIs(system.solves(thing={"q": send, "p": whilst(busy, wait) >> send}), True)
        self.assertIs(system.solves({"q": send, "p": whilst(busy, wait)}), False)
        empty = System(book, {"a": [], "b": ()})
        self.assertEqual([empty.least("a"), empty.greatest("b")], [Flow.stop(book)] * 2)
        self.assertIs(empty.is_one(), True)

    def test_programs(self):
        """[33], [34]: the flow of a program is what the equations of its lines have as their least solution."""
        chance = chances(293)
        tried = 0
        while tried < 60:
            plain = random_book(chance, *chance.choice(SHAPES), 0.8)
            book = book_of(plain)
            lines = random_lines(chance, plain, 3)
            if any(line[0] in ("set", "flag") for line in lines):
                continue
            tried += 1
            names = ["a", "b", "c", "d"][:len(lines) + 1]
            system = System(book, dict(zip(names, line_equations(book, lines, names))))
            self.assertEqual(system.least("a"), Program(book, lines).flow())


def line_equations(book, lines, names):
    """For each line of a program, and the one behind the last, the summands of its equation."""
    skip = Flow.skip(book)
    found = []
    for at, (word, *rest) in enumerate(lines):
        onward = names[at + 1]
        found.append({"do": lambda: [(Flow.deed(book, rest[0]), onward)],
                      "check": lambda: [(Flow.check(book, rest[0]), onward)],
                      "if": lambda: [(Flow.check(book, rest[0]), names[rest[1]]), (Flow.check(book, ~rest[0]), onward)],
                      "jump": lambda: [(skip, names[rest[0]])],
                      "either": lambda: [(skip, names[rest[0]]), (skip, onward)],
                      "end": lambda: [(skip, None)]}[word]())
    return found + [[(skip, None)]]


class Errors(unittest.TestCase):
    def setUp(self):
        self.book = Book(["x"], ["d"])
        self.d = Flow.deed(self.book, "d")

    def check(self, equations, name):
        with self.assertRaises(BadEquation, msg=repr(equations)) as caught:
            System(self.book, equations)
        self.assertIs(caught.exception.name, name)

    def test_no_dicts_and_too_many_keys(self):
        for thing in odd_things() + [{}, [("p", [])], dict.fromkeys("abcde", []), dict.fromkeys([1, 2, 3, 4, 5], 0)]:
            if not isinstance(thing, dict) or not thing or len(thing) > 4:
                self.check(thing, None)

    def test_keys_that_are_no_names(self):
        for key in ("", "A", "a b", "abcdefghi", 0, 1, None, True, (), ("p",), "p1"):
            self.check({"p": [], key: []}, key)
            self.check({key: [], "p": []}, key)
            self.check({"p": 0, key: 0, "a": 0}, key)
            self.check({key: 0, 7: 0, "a": 0}, key)

    def test_values_that_are_no_lists_of_summands(self):
        d, other = self.d, Flow.deed(Book(["x"], ["d"], [(Say.yes(), "d", Say.test("x"))]), "d")
        wrong = [thing for thing in odd_things() if thing not in ([], ()) and thing != "" and thing != {}]
        pairs = [(d,), (d, "p", "p"), (d, "z"), (d, 0), (d, True), (d, ()), (d, ["p"]), (d, ""), (other, None), (other, "p"),
                 ("d", "p"), (None, None), ("p", d), d, (d, d), (d, False), {0: d, 1: None}, (Flow.skip(Book([], ["d"])), None)]
        for thing in wrong + [[one] for one in pairs] + [[(d, None), one] for one in pairs] + [None, 0, "", {}, d, "p"]:
            self.check({"q": thing, "p": []}, "q")
            self.check({"p": thing, "q": [(d, None)]}, "p")
            self.check({"q": thing, "b": thing, "p": [], "c": []}, "b")
        again = Flow.deed(Book(("x",), ("d",)), "d")
        self.assertEqual(System(self.book, {"p": ([again, None], (d, "p"))}).least("p"), d.often() >> d)

    def test_no_names(self):
        system = System(self.book, {"p": [(self.d, None)], "q": [(self.d, "p")]})
        for thing in odd_things() + ["r", "P", "", "pq", ["p"], ("p",), 0]:
            for call in (system.least, system.greatest):
                with self.assertRaises(NoName) as caught:
                    call(thing)
                self.assertIs(caught.exception.name, thing)

    def test_what_solves_nothing(self):
        system = System(self.book, {"p": [(self.d, None)], "q": [(self.d, "p")]})
        right = {"q": self.d >> self.d, "p": self.d}
        self.assertIs(system.solves(right), True)
        strict = Book(["x"], ["d"], [(Say.yes(), "d", Say.test("x"))])
        for thing in odd_things() + [{}, {"p": self.d}, {**right, "r": self.d}, {"p": self.d, "r": self.d >> self.d},
                                     {**right, "p": None}, {**right, "q": "d"}, {**right, "p": [self.d]},
                                     list(right.items()), [right], (right,), {**right, 0: 0}, {"p": self.d, 0: self.d},
                                     {name: flow.under(strict) for name, flow in right.items()}, {**right, "p": self.book},
                                     {"P": self.d, "q": self.d}, {"p": right, "q": right}]:
            self.assertIs(system.solves(thing), False)
        again = Flow.deed(Book(("x",), ("d",)), "d")
        self.assertIs(system.solves({"p": again, "q": again >> again}), True)

    def test_equations_that_are_changed_behind(self):
        equations = {"p": [[self.d, "q"]], "q": [(self.d, None)]}
        system = System(self.book, equations)
        equations["p"][0][1] = None
        equations["q"].append((Flow.skip(self.book), None))
        equations["r"] = []
        del equations["p"]
        self.assertEqual(system.unknowns(), ["p", "q"])
        self.assertEqual(system.least("p"), self.d >> self.d)
        system.unknowns().append("z")
        self.assertEqual(system.unknowns(), ["p", "q"])


if __name__ == "__main__":
    unittest.main()
