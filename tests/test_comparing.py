"""[22], [25], [2]: first rows that one flow lacks, covers, and meanings that tell flows apart."""

import unittest

from deedmeanings.books import Book
from deedmeanings.comparing import cover, is_cover, is_parting, parting, unlike
from deedmeanings.errors import UnlikeBooks
from deedmeanings.flows import Flow, whilst
from deedmeanings.meanings import Meaning
from deedmeanings.readers import reader_of
from deedmeanings.says import Say

from tests.plain import rows_of
from tests.test_readers import letters
from tests.things import flow_cases, odd_things

A = Say.test("a")


def in_order(rows):
    return sorted(rows, key=lambda row: (len(row), row))


def together(one, other, plain):
    """All pairs of places to which the same tuples lead, by the steps of the readers alone."""
    found = {(0, 0)}
    queue = [(0, 0)]
    for mine, yours in queue:
        for pair in letters(plain):
            both = one.step(mine, *pair), other.step(yours, *pair)
            if None not in both and both not in found:
                found.add(both)
                queue.append(both)
    return found


def is_right_cover(one, other, plain, pairs):
    """What the document asks of a cover, word by word, of a set of pairs of places."""
    for mine, yours in pairs:
        if not set(one.ends(mine)) <= set(other.ends(yours)):
            return False
        for pair in letters(plain):
            target = one.step(mine, *pair)
            if target is not None and (target, other.step(yours, *pair)) not in pairs:
                return False
    return (0, 0) in pairs


class Unlikes(unittest.TestCase):
    def test_the_first_row(self):
        found = 0
        for _, plain, _, [(tree, p), (other, q)] in flow_cases(61, 200, 2):
            limit = 4 if len(plain[0]) < 2 else 3
            rows = in_order(rows_of(tree, plain, limit) - rows_of(other, plain, limit))
            first = unlike(p, q)
            if rows:
                self.assertEqual(first, rows[0], (plain, tree, other))
                found += 1
            elif first is not None:
                self.assertGreater(len(first), 2 * limit + 1)
                self.assertTrue(first in p and first not in q)
            else:
                self.assertTrue(p <= q)
            self.assertEqual(first is None, p <= q)
        self.assertTrue(50 < found < 170)

    def test_by_hand(self):
        book = Book(["a"], ["d", "e"])
        d, e = Flow.deed(book, "d"), Flow.deed(book, "e")
        self.assertEqual(unlike(d | e, d), ((), "e", ()))
        self.assertEqual(unlike(p=d >> e, q=d >> e >> Flow.check(book, ~A)), ((), "d", (), "e", ("a",)))
        self.assertIsNone(unlike(d, d | e))
        self.assertIsNone(unlike(Flow.stop(book), d))
        self.assertEqual(unlike(Flow.full(book), Flow.stop(book)), ((),))
        self.assertEqual(unlike(d.often(), Flow.skip(book) | d | d >> d), ((), "d", (), "d", (), "d", ()))


class Covers(unittest.TestCase):
    def test_covers(self):
        for chance, plain, _, [(_, p), (_, q)] in flow_cases(62, 120, 2):
            for one, other in ((p, q), (p & q, q), (p, p | q), (p - q, p), (q, q)):
                readers = reader_of(one), reader_of(other)
                told = cover(one, other)
                if not one <= other:
                    self.assertIsNone(told)
                    pairs = together(*readers, plain)
                    self.assertIs(is_cover(one, other, sorted(pairs)), False)
                    continue
                self.assertEqual(told, sorted(together(*readers, plain)))
                self.assertIs(is_cover(one, other, told), True)
                self.check_others(chance, plain, (one, other), readers, told)

    def check_others(self, chance, plain, flows, readers, told):
        """Pairs are left out, put in and exchanged."""
        every = [(i, j) for i in range(len(readers[0])) for j in range(len(readers[1]))]
        changed = [told[:k] + told[k + 1:] for k in range(len(told))][:6]
        changed += [told + [chance.choice(every)] for _ in range(4)]
        changed += [[pair if pair != told[-1] else chance.choice(every) for pair in told] for _ in range(4)]
        for pairs in changed:
            shuffled = list(pairs) + [list(pair) for pair in pairs[:2]]
            chance.shuffle(shuffled)
            wanted = is_right_cover(*readers, plain, set(pairs))
            self.assertIs(is_cover(*flows, shuffled), wanted)
            self.assertIs(is_cover(*flows, tuple(pairs)), wanted)

    def test_no_list_covers_what_is_not_within(self):
        book = Book(["a"], ["d"])
        d = Flow.deed(book, "d")
        for p, q in ((d | d >> d, d), (Flow.skip(book), Flow.check(book, A)), (d.often(), d ** 3)):
            many = [(i, j) for i in range(len(reader_of(p))) for j in range(len(reader_of(q)))]
            self.assertLess(len(many), 13)
            for mask in range(1 << len(many)):
                pairs = [pair for k, pair in enumerate(many) if mask >> k & 1]
                self.assertIs(is_cover(p, q, pairs), False)

    def test_any_object(self):
        book = Book(["a"], ["d"])
        skip, d = Flow.skip(book), Flow.deed(book, "d")
        self.assertEqual(cover(skip, skip), [(0, 0)])
        self.assertEqual(cover(q=d.often(), p=d), [(0, 0), (1, 0)])
        for thing in odd_things() + [[], (), [(0, 1)], [(0, 0), (0, 1)], [(0, 0), (1, 0)], [(0, 0), None],
                                     [(0, 0), (0, -1)], [(0, 0), (False, 0)], [(0, 0), "00"], [(0, 0), (0, 0, 0)],
                                     [(0, 0), {0: 0, 1: 0}], [(0, 0), (skip, skip)]]:
            self.assertIs(is_cover(skip, skip, thing), False, thing)
        self.assertIs(is_cover(thing=[[0, 0], (0, 0)], q=skip, p=skip), True)
        self.assertIs(is_cover(skip, skip, ([0, 0],)), True)
        told = cover(d, d)
        told.clear()
        self.assertEqual(cover(d, d), [(0, 0), (1, 1)])


class Partings(unittest.TestCase):
    def test_partings(self):
        for chance, plain, book, [(_, p), (_, q)] in flow_cases(63, 120, 2):
            thing = parting(p, q)
            self.assertEqual(thing is None, p <= q)
            if thing is None:
                continue
            self.assertIsInstance(thing, tuple)
            meaning, first, last = thing
            self.assertEqual(meaning.book, book)
            self.assertIn(last, meaning.ends(p, first))
            self.assertNotIn(last, meaning.ends(q, first))
            self.assertIs(is_parting(p, q, thing), True)
            self.assertIs(is_parting(p, q, list(thing)), True)
            self.assertIs(is_parting(p, p, thing), False)
            self.assertIs(is_parting(q, p, thing), False)
            for other in [(meaning, first), (meaning, first, last, last), (first, meaning, last), (meaning, None, last),
                          (meaning, first, meaning.size), (meaning, -1, last), (meaning, str(first), last)]:
                self.assertIs(is_parting(p, q, other), False)

    def test_the_row_is_a_meaning(self):
        # The main fact: a row of one flow that the other has not is a meaning that tells both apart.
        for _, plain, book, [(tree, p), (_, q)] in flow_cases(64, 60, 2):
            for row in in_order(rows_of(tree, plain, 2))[:20]:
                meaning = Meaning.of_row(book, row)
                pair = 0, len(row) // 2
                self.assertIn(pair, meaning.leads(p))
                self.assertEqual(pair in meaning.leads(q), row in q)
                self.assertIs(is_parting(p, q, (meaning,) + pair), row not in q)

    def test_books_of_the_meaning(self):
        book = Book(["a"], ["d"], [(A, "d", A)])
        strict = book.more([(~A, "d", ~A)])
        d, e = Flow.deed(book, "d"), Flow.check(book, A) >> Flow.deed(book, "d")
        row = ((), "d", ())
        self.assertIs(is_parting(d, e, (Meaning.of_row(book, row), 0, 1)), True)
        self.assertIs(is_parting(d, e, (Meaning.of_row(strict, row), 0, 1)), True)
        self.assertIs(is_parting(thing=(Meaning.of_row(book, row), 0, 1), q=e, p=d), True)
        for other in (Book(["a"], ["d"]), Book(["a"], ["d", "e"]), Book(["a", "b"], ["d"]), Book(["b"], ["d"]),
                      Book([], ["d"]), Book(["a"], ["d"], [(A, "d", ~A)])):
            self.assertIs(is_parting(d, e, (Meaning.of_row(other, row), 0, 1)), False)

    def test_any_object(self):
        book = Book(["x"], ["d"])
        full, skip = Flow.full(book), Flow.skip(book)
        meaning = Meaning.of_row(book, ((), "d", ()))
        for thing in odd_things() + [(meaning, 0, 0), (meaning, 0, True), (meaning, False, 1), (skip, 0, 1),
                                     ([meaning], 0, 1), (meaning, 1, 0), (None, 0, 1), (meaning, [0], [1])]:
            self.assertIs(is_parting(full, skip, thing), False, thing)
        self.assertIs(is_parting(full, skip, [meaning, 0, 1]), True)
        self.assertIs(is_parting(skip, full, [meaning, 0, 1]), False)


class Errors(unittest.TestCase):
    def test_unlike_books(self):
        book = Book(["a"], ["d"])
        for other in (Book(["a"], ["d", "e"]), Book(["b"], ["d"]), Book(["a"], ["d"], [(A, "d", A)])):
            p, q = whilst(A, Flow.deed(book, "d")), Flow.stop(other)
            for one, two in ((p, q), (q, p)):
                for call in (lambda: unlike(one, two), lambda: cover(one, two), lambda: is_cover(one, two, None),
                             lambda: parting(one, two), lambda: is_parting(one, two, None)):
                    self.assertRaises(UnlikeBooks, call)
        same = Book(("a",), ("d",), [(A, "d", Say.yes())])
        self.assertIsNone(unlike(Flow.stop(same), Flow.stop(book)))


if __name__ == "__main__":
    unittest.main()
