"""[6]: inputs at the limits get their answers, from texts to systems."""

import unittest
from fractions import Fraction

from deedmeanings.barring import barred, bars_enough, bars_shown, bars_wanting
from deedmeanings.books import Book
from deedmeanings.chances import Chances
from deedmeanings.flows import Flow, whilst
from deedmeanings.learning import told_back
from deedmeanings.plans import best_plan, is_plan, is_trap, sure_from, trap, turns_needed
from deedmeanings.prices import Prices
from deedmeanings.programs import Program, program_of
from deedmeanings.ranking import index_of, number_of, row_at, row_number
from deedmeanings.readers import reader_of
from deedmeanings.says import Say
from deedmeanings.systems import System
from deedmeanings.texts import read_book, read_flow, read_program, read_say, write_book, write_flow, write_program, write_say

from tests.plain import all_truths, book_of, chances, flow_of, random_tree, say_of
from tests.test_chances import random_weights, sure_tree
from tests.test_limits import DEEDS, TESTS, largest_books, some_check
from tests.test_prices import random_costs
from tests.test_programs import random_line

WORDS = (">>", ">>", "|", "-")
OTHERS = ("often", "~", "whilst", "either")


def large_flows(seed, many, deeds=10):
    """Flows with so many deeds of the largest books."""
    for plain in largest_books():
        chance = chances(seed)
        book = book_of(plain)
        for _ in range(many):
            yield chance, plain, book, flow_of(random_tree(chance, plain, deeds, WORDS, OTHERS), plain, book)


class Limits(unittest.TestCase):
    def test_texts(self):
        names = ["abcdefgh", "b", "c", "d", "e"]
        most = Say.no()
        for some in all_truths(names):
            if len(some) % 2:
                most = most | Say.of_terms([(some, [name for name in names if name not in some])])
        self.assertEqual(write_say(most).count("|"), 15)
        self.assertEqual(read_say(write_say(most)), most)
        self.assertEqual(read_say("^".join(names)), most)
        for chance, plain, book, flow in large_flows(301, 2):
            self.assertEqual(read_book(write_book(book)), book)
            self.assertEqual(read_flow(book, write_flow(flow)), flow)
            lines = [random_line(chance, plain, 20, ("f", "g", "h")) for _ in range(20)]
            program = Program(book, lines)
            self.assertEqual(read_program(book, write_program(program)), program)
            self.assertGreater(len(write_program(program_of(flow))), 3)

    def test_bars(self):
        for plain in largest_books():
            chance = chances(303)
            book = book_of(plain)
            d, e, full = Flow.deed(book, "d"), Flow.deed(book, "e"), Flow.full(book)
            bars = [some_check(chance, book) >> d >> some_check(chance, book), d >> some_check(chance, book) >> d,
                    e >> some_check(chance, book) >> d, some_check(chance, book) >> e >> e]
            p, q = (d | e).often(), d.often()
            flow = p
            for bar in bars:
                flow = barred(flow, bar)
            self.assertEqual(flow, barred(p, bars[0] | bars[1] | bars[2] | bars[3]))
            least, greatest = bars_enough(p, q, bars), bars_wanting(p, q, bars)
            self.assertEqual(len(bars_shown(p, q, bars)), len(greatest))
            self.assertTrue(all(set(one) - set(other) for one in least for other in greatest))
            self.assertEqual(barred(full, d >> e >> d), full - (full >> d >> e >> d >> full))
        book = Book(TESTS, ["d"])
        d, x = Flow.deed(book, "d"), Flow.check(book, Say.test("x"))
        self.assertEqual(barred(d.often(), x >> d ** 7 >> x).count(7), 16 ** 6 * (256 - 64))

    def test_plans(self):
        for _, _, book, w in large_flows(304, 3):
            plan = best_plan(w)
            self.assertIs(is_plan(w, plan, sure_from(w)), True)
            self.assertTrue(plan <= w)
            for truths in book.truths():
                self.assertIs(turns_needed(w, truths) is None, not sure_from(w).holds(truths))
            self.assertIs(is_trap(w, trap(w)), True)
            self.assertEqual([truths for place, truths in trap(w) if place == 0],
                             [truths for truths in book.truths() if not sure_from(w).holds(truths)])
        book = Book(TESTS, ["d"], [(Say.test("a"), "d", Say.test("x"))])
        d, x = Flow.deed(book, "d"), Flow.check(book, Say.test("x"))
        w = Flow.full(book) >> Flow.check(book, Say.test("a")) >> d >> x >> d ** 7
        self.assertEqual(sure_from(w), Say.test("a"))
        self.assertEqual(turns_needed(w, ("a",)), 8)
        self.assertEqual(best_plan(w), Flow.check(book, Say.test("a")) >> d ** 8)

    def test_rows_by_number(self):
        for chance, _, _, flow in large_flows(305, 3):
            for length in (1, 30, 60):
                many = flow.count(length)
                if many:
                    index = chance.randrange(many)
                    row = row_at(flow, length, index)
                    self.assertEqual(index_of(flow, row), (length, index))
                    self.assertEqual(row_number(flow, number_of(flow, row)), row)

    def test_told_back(self):
        for _, _, book, flow in large_flows(306, 1, 6):
            calls = []

            def differ(guess):
                calls.append(guess)
                return ((guess - flow) | (flow - guess)).first()
            self.assertEqual(told_back(book, lambda row: row in flow, differ), flow)
            self.assertLessEqual(len(calls), len(reader_of(flow)) + 1)

    def test_prices(self):
        for chance, plain, book, flow in large_flows(307, 3):
            costs = random_costs(chance, plain)
            prices = Prices(book, costs)
            least, greatest, some = prices.least(flow), prices.greatest(flow), prices.some_purse(flow)
            for price, row in ((least, prices.cheapest(flow)), (greatest, prices.dearest(flow))):
                self.assertIs(price is None, row is None)
                if row is not None:
                    self.assertEqual(prices.of(row), price)
                    self.assertTrue(row in flow)
            self.assertIs(some is None, not flow)
            every = prices.every_purse(flow)
            paid = prices.paid(flow, 12, 12)
            self.assertTrue(paid <= flow)
            self.assertTrue(every is None or some is None or some <= every)
            if some is not None and some > 12:
                self.assertFalse(paid)
        book = Book(TESTS, ["d"])
        far = Flow.full(book) >> Flow.check(book, Say.test("x")) >> Flow.deed(book, "d") ** 8
        prices = Prices(book, {"d": [(Say.test("x"), 50), (Say.test("a"), -50), (~Say.test("a"), 1)]})
        self.assertEqual((prices.least(far), prices.greatest(far)), (None, None))
        self.assertEqual((prices.some_purse(far), prices.every_purse(far)), (0, None))
        prices = Prices(book, {"d": [(Say.yes(), 50)]})
        self.assertEqual((prices.least(far), prices.some_purse(far)), (400, 400))
        self.assertEqual(prices.cheapest(far), (("a", "b", "c", "x"), "d") + ((), "d") * 7 + ((),))

    def test_chances(self):
        for plain in largest_books():
            chance = chances(308)
            book = book_of(plain)
            shares = Chances(book, random_weights(chance, plain, True))
            for _ in range(4):
                flow = flow_of(sure_tree(chance, plain, 9), plain, book)
                flow = whilst(say_of(TESTS, all_truths(TESTS)[::2]), Flow.deed(book, "d")) >> flow
                for first in ((), ("a", "x")):
                    ends = Fraction(*shares.ends(flow, first))
                    parts = [Fraction(*shares.end(flow, first, last)) for last in book.truths()]
                    self.assertEqual(sum(parts), ends)
                    self.assertLessEqual(Fraction(*shares.early(flow, first, 40)), ends)
                    self.assertIs(shares.mean(flow, first) is None, ends != 1)

    def test_systems(self):
        for plain in largest_books():
            chance = chances(309)
            book = book_of(plain)
            for _ in range(2):
                parts = [flow_of(random_tree(chance, plain, deeds, (">>", "|"), ("often",)), plain, book)
                         for deeds in (1, 2, 1, 1, 2, 1, 1, 1)]
                equations = {name: [(parts[at], chance.choice("pqrs")), (parts[at + 1], chance.choice(["p", "q", None]))]
                             for at, name in ((0, "p"), (2, "q"), (4, "r"), (6, "s"))}
                system = System(book, equations)
                least = {name: system.least(name) for name in "pqrs"}
                greatest = {name: system.greatest(name) for name in "pqrs"}
                self.assertIs(system.solves(least), True)
                self.assertIs(system.solves(greatest), True)
                self.assertIs(system.is_one(), least == greatest)
                self.assertTrue(all(least[name] <= greatest[name] for name in "pqrs"))
        self.assertEqual(len(DEEDS), 5)


if __name__ == "__main__":
    unittest.main()
