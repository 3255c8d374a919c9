"""[49]: flows are told back from answers, with few calls and short rows."""

import unittest

from deedmeanings.books import Book
from deedmeanings.flows import Flow, whilst
from deedmeanings.learning import told_back
from deedmeanings.readers import reader_of
from deedmeanings.ranking import row_at
from deedmeanings.says import Say
from deedmeanings.texts import read_flow, write_flow

from tests.plain import book_of, chances, flow_of, random_book, random_tree
from tests.things import SHAPES


def first_wrong(rest, _):
    return rest.first()


def longer_wrong(most):
    """Tells a row with about so many deeds where there is one."""
    def pick(rest, chance):
        least = rest.length()
        lengths = [length for length in range(least, max(least, most) + 1) if length == least or length > most - 6]
        length = [length for length in lengths if rest.count(length)][-1]
        return row_at(rest, length, chance.randrange(rest.count(length)))
    return pick


class Asked:
    """A flow of which only answers are told, and what was asked."""

    def __init__(self, case, flow, pick, chance):
        self.case, self.flow, self.pick, self.chance = case, flow, pick, chance
        self.full = Flow.full(flow.book)
        self.rows = []
        self.calls = 0

    def ask(self, row):
        self.case.assertIsInstance(row, tuple)
        self.case.assertLessEqual(len(row), 601)
        self.case.assertTrue(all(isinstance(truths, tuple) and list(truths) == sorted(truths) for truths in row[::2]))
        self.case.assertTrue(all(isinstance(deed, str) for deed in row[1::2]))
        self.case.assertTrue(row in self.full)
        self.rows.append(row)
        return row in self.flow

    def differ(self, flow):
        self.case.assertEqual(flow.book, self.flow.book)
        self.calls += 1
        rest = (flow - self.flow) | (self.flow - flow)
        return self.pick(rest, self.chance) if rest else None


def check(case, flow, pick, chance):
    asked = Asked(case, flow, pick, chance)
    case.assertEqual(told_back(flow.book, asked.ask, asked.differ), flow)
    case.assertLessEqual(asked.calls, len(reader_of(flow)) + 1)
    return asked


class ToldBack(unittest.TestCase):
    def test_random_flows(self):
        chance = chances(261)
        places = []
        for turn in range(90):
            plain = random_book(chance, *chance.choice(SHAPES), chance.choice([0.3, 0.6, 0.9, 1.0]))
            book = book_of(plain)
            flow = flow_of(random_tree(chance, plain, 3 + chance.randrange(4), (">>", ">>", "|", "-")), plain, book)
            pick = (first_wrong, longer_wrong(12), longer_wrong(60))[turn % 3]
            check(self, flow, pick, chance)
            places.append(len(reader_of(flow)))
        self.assertGreater(max(places), 10)
        self.assertGreater(sum(count > 3 for count in places), 12)

    def test_small_flows(self):
        for book in (Book([], ["d"]), Book(["x"], ["d"]), Book(["x"], ["d", "e"], [(Say.test("x"), "d", Say.no())]),
                     Book(["x"], ["d"], [(Say.yes(), "d", Say.no())])):
            for flow in (Flow.stop(book), Flow.skip(book), Flow.full(book), Flow.deed(book, "d"), ~Flow.skip(book),
                         Flow.full(book) >> Flow.deed(book, "d")):
                asked = check(self, flow, first_wrong, None)
                # What was made of the guess with the first truths alone may be right at once.
                self.assertLessEqual(asked.calls, 3)

    def test_flows_that_look_far_back(self):
        chance = chances(262)
        for tests in (["x"], ["a", "b", "x"]):
            book = Book(tests, ["d"])
            d, x = Flow.deed(book, "d"), Flow.check(book, Say.test("x"))
            far = Flow.full(book) >> x >> d ** (5 if len(tests) == 1 else 4)
            for flow in (far, whilst(Say.test("x"), d ** 5) >> d):
                check(self, flow, first_wrong, chance)
                check(self, flow.turned(), longer_wrong(60), chance)
            if len(tests) == 1:
                check(self, far, longer_wrong(60), chance)

    def test_rings_that_are_counted(self):
        chance = chances(263)
        book = Book([], ["d", "e"])
        d, e = Flow.deed(book, "d"), Flow.deed(book, "e")
        for flow in ((d ** 6).often(), (d ** 3).often() | (d ** 2).often() >> e, (d >> e >> e).often() >> (d | e >> e),
                     ((d | e) ** 3).often() - (d ** 3).often()):
            for pick in (first_wrong, longer_wrong(60), longer_wrong(150), longer_wrong(290)):
                check(self, flow, pick, chance)

    def test_very_long_rows(self):
        """Also of rows with more deeds than may be asked for, no row that is asked for has more than 300."""
        chance = chances(264)
        book = Book(["x"], ["d", "e"])
        d, e, x = Flow.deed(book, "d"), Flow.deed(book, "e"), Flow.check(book, Say.test("x"))
        for flow in ((d ** 5).often() >> e, (Flow.full(book) >> x >> d >> d), (d >> x >> e).often(), ~(d >> d >> e)):
            for most in (310, 400):
                asked = check(self, flow, longer_wrong(most), chance)
                self.assertTrue(all(len(row) // 2 <= 300 for row in asked.rows))

    def test_the_largest_book(self):
        chance = chances(265)
        for density in (0.2, 0.6, 1.0):
            plain = random_book(chance, ("a", "b", "c", "x"), ("d", "e", "f", "g", "h"), density)
            book = book_of(plain)
            x = Flow.check(book, Say.test("x"))
            flow = (Flow.deed(book, "d") >> x >> (Flow.deed(book, "e") | x)).often() >> Flow.deed(book, "f")
            check(self, flow, first_wrong, chance)

    def test_answers_that_ask_the_package(self):
        """What ask and differ ask of the package themselves changes nothing."""
        book = Book(["x"], ["d", "e"])
        d, e, x = Flow.deed(book, "d"), Flow.deed(book, "e"), Flow.check(book, Say.test("x"))
        flow = (d >> x >> e).often() >> d
        other = d >> (e | x >> d)
        plain = Asked(self, flow, first_wrong, None)
        told_back(ask=plain.ask, differ=plain.differ, book=book)
        asked = Asked(self, flow, first_wrong, None)

        def ask(row):
            inner = Asked(self, other, first_wrong, None)
            if len(asked.rows) % 20 == 0:
                self.assertEqual(told_back(book, inner.ask, inner.differ), other)
            return asked.ask(row)

        def differ(one):
            self.assertEqual(read_flow(book, write_flow(one)), one)
            return asked.differ(one)
        self.assertEqual(told_back(book, ask, differ), flow)
        self.assertEqual((asked.rows, asked.calls), (plain.rows, plain.calls))

    def test_rows_that_are_lists(self):
        book = Book(["x", "y"], ["d"])
        flow = Flow.deed(book, "d") >> Flow.check(book, Say.test("y"))
        asked = Asked(self, flow, first_wrong, None)

        def differ(one):
            row = asked.differ(one)
            return row and [list(part) if isinstance(part, tuple) else part for part in row]
        self.assertEqual(told_back(book, asked.ask, differ), flow)

    def test_errors_leave_it(self):
        book = Book(["x"], ["d"])

        def fails(_):
            raise KeyError("mine")
        self.assertRaises(KeyError, told_back, book, fails, lambda _: None)
        self.assertRaises(KeyError, told_back, book, lambda _: False, fails)


if __name__ == "__main__":
    unittest.main()
