"""[48]: rows by number, against small lists of all rows, and back again where the lists are long."""

import unittest

from deedmeanings.books import Book
from deedmeanings.errors import BadCount, BadIndex, NoRow
from deedmeanings.flows import Flow
from deedmeanings.ranking import index_of, number_of, row_at, row_number
from deedmeanings.says import Say

from tests.plain import book_of, chances, flow_of, random_book, random_tree, rows_of
from tests.things import flow_cases, odd_things


def cases(seed, many):
    """Flows with the ascending lists of their rows of some lengths, all of which are told by going through them."""
    for _, plain, _, [(tree, flow)] in flow_cases(seed, many, 1):
        rows = rows_of(tree, plain, 3)
        yield flow, [sorted(row for row in rows if len(row) // 2 == length) for length in range(4)]


class Small(unittest.TestCase):
    def test_rows_and_places(self):
        most = 0
        for flow, lists in cases(251, 80):
            ahead = 0
            for length, rows in enumerate(lists):
                for index, row in enumerate(rows[:40]):
                    self.assertEqual(row_at(flow, length, index), row)
                    self.assertEqual(index_of(flow, row), (length, index))
                    self.assertEqual(row_number(flow, ahead + index), row)
                    self.assertEqual(number_of(flow, row), ahead + index)
                for index in (len(rows), len(rows) + 1, -1, 10 ** 40):
                    with self.assertRaises(BadIndex) as caught:
                        row_at(flow, length, index)
                    self.assertEqual(caught.exception.thing, index)
                ahead += len(rows)
            most = max(most, ahead)
        self.assertGreater(most, 150)

    def test_told_otherwise(self):
        book = Book(["x", "y"], ["d", "e"])
        flow = Flow.full(book) - Flow.skip(book)
        row = (("y", "x"), "d", ["y", "x"], "e", [])
        told = (("x", "y"), "d", ("x", "y"), "e", ())
        length, index = index_of(p=flow, row=list(row))
        self.assertEqual((length, index), index_of(flow, told))
        self.assertEqual(row_at(p=flow, n=length, index=index), told)
        self.assertEqual(row_number(p=flow, number=number_of(p=flow, row=row)), told)
        self.assertEqual(number_of(flow, row), 32 + index)

    def test_all_rows_in_order(self):
        book = Book(["x"], ["d", "e"])
        flow = Flow.full(book)
        rows = [row for length in range(4) for row in flow.rows(length)]
        self.assertEqual([row_number(flow, number) for number in range(len(rows))], rows)
        self.assertEqual([number_of(flow, row) for row in rows], list(range(len(rows))))
        self.assertEqual(rows, sorted(rows, key=lambda row: (len(row), row)))


class Large(unittest.TestCase):
    def test_lengths_up_to_sixty(self):
        chance = chances(252)
        found = 0
        for _ in range(40):
            plain = random_book(chance, ("x", "y"), ("d", "e"), chance.choice([0.4, 0.7, 1.0]))
            book = book_of(plain)
            flow = flow_of(random_tree(chance, plain, 4), plain, book).often()
            for length in (4, 17, 59, 60):
                many = flow.count(length)
                places = [0, many - 1, many // 2, chance.randrange(many)] if many else []
                shorter = sum(flow.count(less) for less in range(length))
                for index in places:
                    row = row_at(flow, length, index)
                    self.assertTrue(row in flow)
                    self.assertEqual(index_of(flow, row), (length, index))
                    self.assertEqual(number_of(flow, row), shorter + index)
                    self.assertEqual(row_number(flow, shorter + index), row)
                    found += 1
                if many > 1:
                    rows = [row_at(flow, length, index) for index in (0, 1, many // 2, many - 1)]
                    self.assertEqual(rows, sorted(rows))
                self.assertRaises(BadIndex, row_at, flow, length, many)
        self.assertGreater(found, 200)

    def test_the_largest_book(self):
        book = Book(["a", "b", "c", "x"], ["d", "e", "f", "g", "h"])
        flow = Flow.full(book)
        many = 16 ** 61 * 5 ** 60
        last = (("x",), "h") * 60 + (("x",),)
        self.assertEqual(row_at(flow, 60, many - 1), last)
        self.assertEqual(index_of(flow, last), (60, many - 1))
        self.assertEqual(row_at(flow, 60, 0), ((), "d") * 60 + ((),))
        every = sum(16 ** (length + 1) * 5 ** length for length in range(61))
        self.assertEqual(row_number(flow, every - 1), last)
        self.assertEqual(number_of(flow, last), every - 1)
        self.assertRaises(BadIndex, row_number, flow, every)
        far = flow >> Flow.check(book, Say.test("x")) >> Flow.deed(book, "d") ** 5
        self.assertEqual(index_of(far, row_at(far, 60, 10 ** 90)), (60, 10 ** 90))


class Errors(unittest.TestCase):
    def setUp(self):
        self.book = Book(["x"], ["d"])
        self.flow = Flow.deed(self.book, "d") | Flow.check(self.book, Say.test("x"))

    def test_bad_counts_and_places(self):
        for thing in odd_things():
            if thing == 10 ** 30:
                continue
            for index in (0, None, -1, "0"):
                with self.assertRaises(BadCount) as caught:
                    row_at(self.flow, thing, index)
                self.assertIs(caught.exception.thing, thing)
        for thing in odd_things() + [4, 10 ** 20, "0", [0], (0,)]:
            for length in (0, 1, 2, 60):
                with self.assertRaises(BadIndex) as caught:
                    row_at(self.flow, length, thing)
                self.assertIs(caught.exception.thing, thing)

    def test_bad_numbers(self):
        self.assertEqual(row_number(self.flow, 0), (("x",),))
        self.assertEqual(row_number(self.flow, 4), (("x",), "d", ("x",)))
        for thing in odd_things() + [5, 6, 10 ** 20, "0", [0], (0,), "1"]:
            with self.assertRaises(BadIndex) as caught:
                row_number(self.flow, thing)
            self.assertIs(caught.exception.thing, thing)
        for number in (0, 1, -1):
            self.assertRaises(BadIndex, row_number, Flow.stop(self.book), number)
            self.assertRaises(BadIndex, row_at, Flow.stop(self.book), 0, number)
        # Rows with more than sixty deeds have no number.
        one = Book([], ["d"])
        self.assertEqual(row_number(Flow.full(one), 60), ((), "d") * 60 + ((),))
        self.assertRaises(BadIndex, row_number, Flow.full(one), 61)

    def test_no_rows(self):
        for thing in odd_things() + [((),), ((), "d"), (("x",), "e", ()), (("z",),), ((), "d", (), "d", ()), "d", ("x",),
                                     (("x", "x"),)]:
            for call in (index_of, number_of):
                with self.assertRaises(NoRow) as caught:
                    call(self.flow, thing)
                self.assertIs(caught.exception.thing, thing)
                self.assertRaises(NoRow, call, Flow.stop(self.book), thing)

    def test_asked_twice(self):
        told = [(row_at(self.flow, 1, 3), index_of(self.flow, ((), "d", ())), row_number(self.flow, 2),
                 number_of(self.flow, (("x",),))) for _ in range(2)]
        self.assertEqual(told[0], told[1])
        self.assertEqual(told[0], ((("x",), "d", ("x",)), (1, 0), ((), "d", ("x",)), 0))


if __name__ == "__main__":
    unittest.main()
