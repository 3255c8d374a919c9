"""[31]: the loosest flow in a gap, against an independent joining of the rows of small books."""

import unittest

from deedmeanings.books import Book
from deedmeanings.errors import UnlikeBooks
from deedmeanings.flows import Flow, whilst
from deedmeanings.gaps import loosest, loosest_end, loosest_start
from deedmeanings.says import Say

from tests.plain import exactly, every_row, rows_of
from tests.things import SHAPES, flow_cases

A = Say.test("a")


def only(plain, book, row):
    """The flow that has one row alone."""
    flow = Flow.check(book, exactly(plain[0], row[0]))
    for deed, truths in zip(row[1::2], row[2::2]):
        flow = flow >> Flow.deed(book, deed) >> Flow.check(book, exactly(plain[0], truths))
    return flow


def joins(ahead, row, behind):
    """All rows that come of a row if rows of two sets are joined to it."""
    begun = [some + row[1:] for some in ahead if some[-1] == row[0]]
    return {some + more[1:] for some in begun for more in behind if some[-1] == more[0]}


class Loosest(unittest.TestCase):
    def test_by_the_rows(self):
        """With few rows ahead and behind, each row of the book is joined to all of them."""
        counts = [0, 0]
        for _, plain, book, [(one, ahead), (tree, whole), (other, behind)] in flow_cases(101, 80, 3, 3):
            one, other = ("|", one, ("skip",)), ("|", other, ("check", ((),)))
            limit = 2 if len(plain[0]) else 3
            first = {row for row in rows_of(one, plain, 1)}
            last = {row for row in rows_of(other, plain, 1)}
            ahead = Flow.stop(book)
            for row in sorted(first):
                ahead = ahead | only(plain, book, row)
            behind = Flow.stop(book)
            for row in sorted(last):
                behind = behind | only(plain, book, row)
            flow = loosest(ahead, whole, behind)
            rows = rows_of(tree, plain, limit + 2)
            for length in range(limit + 1):
                for row in every_row(plain, length):
                    fits = joins(first, row, last) <= rows
                    counts[fits] += 1
                    self.assertIs(row in flow, fits, (plain, tree, row))
            self.assertTrue(ahead >> flow >> behind <= whole)
        self.assertTrue(min(counts) > 500, counts)

    def test_a_row_fits_exactly_if_it_is_of_the_loosest(self):
        shapes = SHAPES[:4]
        for _, plain, book, [(_, ahead), (_, whole), (_, behind), (_, x)] in flow_cases(102, 60, 4, 3, shapes):
            flow = loosest(ahead, whole, behind)
            self.assertTrue(ahead >> flow >> behind <= whole)
            for some in (x, x & flow, x | flow, x - flow, ~x):
                self.assertIs(ahead >> some >> behind <= whole, some <= flow)
            for length in range(2):
                for row in every_row(plain, length):
                    one = only(plain, book, row)
                    self.assertIs(row in flow, ahead >> one >> behind <= whole)

    def test_ends_and_starts(self):
        for _, _, book, [(_, p), (_, whole), (_, q)] in flow_cases(103, 60, 3, 3):
            skip = Flow.skip(book)
            self.assertEqual(loosest_end(p, whole), loosest(p, whole, skip))
            self.assertEqual(loosest_start(whole, p), loosest(skip, whole, p))
            self.assertEqual(loosest(p, whole, q), loosest_end(p, loosest_start(whole, q)))
            self.assertEqual(loosest(p, whole, q), loosest_start(loosest_end(p, whole), q))
            self.assertEqual(loosest(skip, whole, skip), whole)
            self.assertTrue(q <= loosest_end(p, p >> q))
            self.assertTrue(p <= loosest_start(p >> q, q))


class ByHand(unittest.TestCase):
    def setUp(self):
        self.book = Book(["a"], ["d", "e"])
        self.d, self.e = Flow.deed(self.book, "d"), Flow.deed(self.book, "e")
        self.stop, self.skip, self.full = Flow.stop(self.book), Flow.skip(self.book), Flow.full(self.book)

    def test_ordinary(self):
        a = Flow.check(self.book, A)
        self.assertEqual(loosest_end(self.d, self.d >> self.e), self.e)
        self.assertEqual(loosest_start(self.d >> self.e, self.e), self.d)
        self.assertEqual(loosest(self.d, self.d >> self.e >> self.d, self.d), self.e)
        self.assertEqual(loosest_end(self.d >> a, self.d >> a >> self.e), self.e | Flow.check(self.book, ~A) >> self.full)
        self.assertEqual(loosest_end(self.d | self.skip, self.d.often()), self.d.often())
        self.assertEqual(loosest_start(whole=self.d.often(), behind=self.e), self.stop)

    def test_stop_skip_full_and_loops(self):
        loop = whilst(A, self.d)
        for flow in (self.d, loop, self.full, self.stop, self.skip):
            self.assertEqual(loosest(self.stop, flow, self.d), self.full)
            self.assertEqual(loosest(self.d, flow, self.stop), self.full)
            self.assertEqual(loosest(behind=self.skip, whole=flow, ahead=self.skip), flow)
            self.assertEqual(loosest(flow, self.full, flow), self.full)
        for flow in (self.d, self.full, self.skip):
            self.assertEqual(loosest(flow, self.stop, flow), self.stop)
        self.assertEqual(loosest(self.full, self.full >> self.d, self.skip), self.full >> self.d)
        self.assertEqual(loosest(self.full, self.d, self.skip), self.stop)
        self.assertEqual(loosest_end(self.d.often(), self.d.often() >> self.e), self.d.often() >> self.e)
        self.assertEqual(loosest_end(loop, loop), loop | Flow.check(self.book, A) >> self.full)

    def test_unlike_books(self):
        other = Flow.full(Book(["a"], ["d", "e"], [(A, "d", A)]))
        for passed in ((other, self.d, self.d), (self.d, other, self.d), (self.d, self.d, other),
                       (other, other, self.d)):
            self.assertRaises(UnlikeBooks, loosest, *passed)
        for call in (loosest_end, loosest_start):
            self.assertRaises(UnlikeBooks, call, self.d, other)
            self.assertRaises(UnlikeBooks, call, other, self.d)


if __name__ == "__main__":
    unittest.main()
