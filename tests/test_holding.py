"""[26] to [28]: what holds, by the first and last truths of all rows of small flows."""

import unittest

from deedmeanings.books import Book
from deedmeanings.errors import NoTest, UnlikeBooks
from deedmeanings.flows import Flow, whilst
from deedmeanings.holding import (breaking, holds, needed, reached, strongest_kept, thereafter, weakest_kept, when)
from deedmeanings.says import Say

from tests.plain import all_truths, rows_of, say_of
from tests.things import flow_cases

A, B = Say.test("a"), Say.test("b")


def limit_of(plain):
    return {0: 7, 1: 6 if len(plain[1]) == 1 else 5, 2: 4}[len(plain[0])]


def hold_cases(seed, many, flows, deeds=2):
    """Cases with all rows of each flow up to a length by which each pair of ends is come to."""
    for chance, plain, book, pairs in flow_cases(seed, many, flows, deeds):
        if len(plain[0]) == 2 and len(plain[1]) == 2:
            continue
        every = all_truths(plain[0])
        somes = [[truths for truths in every if chance.random() < 0.5] for _ in range(2)]
        rows = [sorted(rows_of(tree, plain, limit_of(plain)), key=lambda row: (len(row), row)) for tree, _ in pairs]
        yield plain, book, [flow for _, flow in pairs], rows, somes


class Holding(unittest.TestCase):
    def test_reached_and_needed(self):
        for plain, _, [p], [rows], [some, _] in hold_cases(81, 150, 1):
            every = all_truths(plain[0])
            say = say_of(plain[0], some)
            ends = {row[-1] for row in rows if row[0] in some}
            self.assertEqual(reached(say, p), say_of(plain[0], ends))
            wrong = {row[0] for row in rows if row[-1] not in some}
            self.assertEqual(needed(p, say), say_of(plain[0], [truths for truths in every if truths not in wrong]))

    def test_holds_and_breaking(self):
        answers = []
        for plain, book, [p], [rows], somes in hold_cases(82, 150, 1):
            before, behind = [say_of(plain[0], some) for some in somes]
            wrong = [row for row in rows if row[0] in somes[0] and row[-1] not in somes[1]]
            self.assertEqual(breaking(before, p, behind), wrong[0] if wrong else None)
            told = holds(before, p, behind)
            self.assertIs(told, not wrong)
            answers.append(told)
            self.assertEqual(told, reached(before, p) <= behind)
            self.assertEqual(told, before <= needed(p, behind))
            self.assertEqual(told, Flow.check(book, before) >> p <= p >> Flow.check(book, behind))
        self.assertTrue(20 < sum(answers) < len(answers) - 20)

    def test_kept(self):
        for plain, _, [p], [rows], [some, _] in hold_cases(83, 120, 1):
            every = all_truths(plain[0])
            say = say_of(plain[0], some)
            kept = [say_of(plain[0], [truths for at, truths in enumerate(every) if mask >> at & 1])
                    for mask in range(1 << len(every))]
            kept = [one for one in kept if all(one.holds(row[-1]) for row in rows if one.holds(row[0]))]
            self.assertTrue(all(holds(one, p, one) for one in kept))
            wider = [one for one in kept if say <= one]
            strongest = strongest_kept(say, p)
            self.assertTrue(strongest in wider and all(strongest <= one for one in wider))
            narrower = [one for one in kept if one <= say]
            weakest = weakest_kept(p, say)
            self.assertTrue(weakest in narrower and all(one <= weakest for one in narrower))

    def test_when_and_thereafter(self):
        for plain, book, (p, q), (rows, others), somes in hold_cases(84, 150, 2):
            every = all_truths(plain[0])
            lacking = set(rows) - set(others)
            begun, ended = {row[0] for row in lacking}, {row[-1] for row in lacking}
            first, last = when(p, q), thereafter(p, q)
            self.assertEqual(first, say_of(plain[0], [truths for truths in every if truths not in begun]))
            self.assertEqual(last, say_of(plain[0], [truths for truths in every if truths not in ended]))
            for say in [say_of(plain[0], some) for some in somes] + [first, last]:
                self.assertEqual(Flow.check(book, say) >> p <= q, say <= first)
                self.assertEqual(p >> Flow.check(book, say) <= q, say <= last)


class ByHand(unittest.TestCase):
    def setUp(self):
        self.book = Book(["a", "b"], ["d", "e"], [(A, "d", A & B), (B, "e", ~A)])
        self.d, self.e = Flow.deed(self.book, "d"), Flow.deed(self.book, "e")

    def test_ordinary(self):
        self.assertEqual(reached(A, self.d), A & B)
        self.assertEqual(reached(say=A, p=self.d >> self.e), ~A)
        self.assertEqual(needed(self.d, B), A)
        self.assertEqual(needed(say=Say.no(), p=Flow.check(self.book, A)), ~A)
        self.assertIs(holds(A, self.d, B), True)
        self.assertIs(holds(behind=B, before=~A, p=self.d), False)
        self.assertEqual(breaking(~A, self.d, B), ((), "d", ()))
        self.assertEqual(breaking(behind=~A, p=self.d, before=A & B), (("a", "b"), "d", ("a", "b")))
        self.assertIsNone(breaking(A, self.d, A))
        self.assertEqual(strongest_kept(say=A & ~B, p=self.d), A)
        self.assertEqual(weakest_kept(p=self.d, say=A), A)
        self.assertEqual(weakest_kept(self.d, B), A & B)
        self.assertEqual(when(p=self.d, q=self.d >> Flow.check(self.book, B)), A)
        self.assertEqual(thereafter(q=Flow.check(self.book, A) >> self.d, p=self.d), Say.no())
        self.assertEqual(thereafter(self.d >> Flow.check(self.book, B), self.d), Say.yes())
        # B ahead of e is not kept: behind e nothing is known of it.
        self.assertEqual(strongest_kept(B, whilst(B, self.e)), Say.yes() & (B | ~B & ~A))

    def test_flows_without_rows(self):
        stop = Flow.stop(self.book)
        self.assertEqual(reached(Say.yes(), stop), Say.no())
        self.assertEqual(needed(stop, Say.no()), Say.yes())
        self.assertIs(holds(Say.yes(), stop, Say.no()), True)
        self.assertIsNone(breaking(Say.yes(), stop, Say.no()))
        self.assertEqual([strongest_kept(A, stop), weakest_kept(stop, A)], [A, A])
        self.assertEqual([when(stop, stop), thereafter(stop, stop)], [Say.yes(), Say.yes()])
        self.assertEqual(when(Flow.full(self.book), stop), Say.no())

    def test_no_test(self):
        one, other = Say.test("z") | Say.test("y") & A, Say.test("x")
        calls = [lambda: reached(one, self.d), lambda: needed(self.d, one), lambda: holds(one, self.d, other),
                 lambda: holds(A, self.d, one), lambda: breaking(one, self.d, other),
                 lambda: breaking(A, self.d, one), lambda: strongest_kept(one, self.d),
                 lambda: weakest_kept(self.d, one)]
        for call in calls:
            with self.assertRaises(NoTest) as caught:
                call()
            self.assertEqual(caught.exception.name, "y")
        empty = Flow.stop(self.book)
        for call in (lambda: holds(Say.no(), empty, other), lambda: breaking(Say.no(), empty, other)):
            with self.assertRaises(NoTest) as caught:
                call()
            self.assertEqual(caught.exception.name, "x")

    def test_unlike_books(self):
        for book in (Book(["a", "b"], ["d", "e"]), Book(["a", "b"], ["d"]), Book(["a"], ["d", "e"])):
            for one, two in ((self.d, Flow.stop(book)), (Flow.stop(book), self.d)):
                self.assertRaises(UnlikeBooks, lambda: when(one, two))
                self.assertRaises(UnlikeBooks, lambda: thereafter(one, two))


if __name__ == "__main__":
    unittest.main()
