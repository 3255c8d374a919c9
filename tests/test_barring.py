"""[43], [44]: what never happens, against looking at all parts of rows and going through all sets of bars."""

import unittest

from deedmeanings.barring import barred, bars_enough, bars_shown, bars_wanting
from deedmeanings.books import Book
from deedmeanings.comparing import unlike
from deedmeanings.errors import BadBar, UnlikeBooks
from deedmeanings.flows import Flow
from deedmeanings.meanings import Meaning
from deedmeanings.says import Say

from tests.plain import all_truths, flow_of, rows_of, say_of
from tests.test_meanings import random_meaning
from tests.test_promising import all_sets, check_sets
from tests.things import flow_cases, odd_things

LIMIT = 3


def parts(row):
    return [row[start:end] for start in range(0, len(row), 2) for end in range(start + 1, len(row) + 1, 2)]


def left(rows, bars):
    """The rows of which no part is a row of some sets of rows."""
    return {row for row in rows if not any(part in bar for part in parts(row) for bar in bars)}


def random_bar(chance, plain):
    """A tree of a bar that has no rows of length 0 and few others."""
    def check():
        return ("check", tuple(truths for truths in all_truths(plain[0]) if chance.random() < 0.7))
    tree = (">>", check(), (">>", ("deed", chance.choice(plain[1])), check()))
    return tree if chance.random() < 0.6 else (">>", tree, ("deed", chance.choice(plain[1])))


def richer(chance, tree, plain):
    """A tree that has the rows of a tree and more."""
    more = ("deed", chance.choice(plain[1]))
    for _ in range(chance.randrange(3)):
        more = (">>", more, ("|", ("deed", chance.choice(plain[1])), ("skip",)))
    return ("|", tree, more)


def order(row):
    return len(row), row


class Barred(unittest.TestCase):
    def test_rows(self):
        fewer = 0
        for chance, plain, book, [(tree, p), (other, r)] in flow_cases(231, 150, 2, 4):
            if chance.random() < 0.6:
                tree, other = richer(chance, tree, plain), random_bar(chance, plain)
                p, r = flow_of(tree, plain, book), flow_of(other, plain, book)
            rows = rows_of(tree, plain, LIMIT)
            wanted = left(rows, [rows_of(other, plain, LIMIT)])
            flow = barred(p, r)
            self.assertEqual(flow.book, book)
            for length in range(LIMIT + 1):
                self.assertEqual(flow.rows(length), sorted(row for row in wanted if len(row) // 2 == length))
            fewer += bool(wanted) and wanted != rows
        self.assertGreater(fewer, 40)

    def test_one_bar_after_another(self):
        for _, _, book, [(_, p), (_, r), (_, s)] in flow_cases(232, 60, 3):
            self.assertEqual(barred(barred(p, r), s), barred(p, r | s))
            self.assertEqual(barred(barred(p, r), r), barred(p, r))
            self.assertEqual(barred(p, Flow.stop(book)), p)
            self.assertEqual(barred(p, Flow.skip(book)), Flow.stop(book))
            self.assertTrue(barred(p, r) <= p - r)
            around = Flow.full(book) >> r >> Flow.full(book)
            self.assertEqual(barred(p, r), p - around)
            self.assertEqual(barred(p, r) | (p & around), p)

    def test_a_promise_as_a_bar(self):
        """A step that breaks a promise never happens: then the rows are those that the book with it lets."""
        for chance, plain, book, [(_, p)] in flow_cases(233, 60, 1):
            before, behind = [say_of(plain[0], [some for some in all_truths(plain[0]) if chance.random() < 0.5])
                              for _ in range(2)]
            deed = chance.choice(plain[1])
            bar = Flow.check(book, before) >> Flow.deed(book, deed) >> Flow.check(book, ~behind)
            strict = book.more([(before, deed, behind)])
            flow = barred(p, bar)
            self.assertEqual(flow.under(strict), p.under(strict))
            for length in range(3):
                self.assertEqual(flow.rows(length), p.under(strict).rows(length))

    def test_meanings_that_keep_off_a_bar(self):
        kept = 0
        for chance, plain, book, [(_, p), (_, q), (_, r)] in flow_cases(234, 200, 3, 2):
            inside = barred(p, r) <= q
            tests, deeds = random_meaning(chance, plain, 4)[1:]
            meaning = Meaning(book, 4, tests, deeds)
            if not meaning.leads(r):
                kept += 1
                self.assertEqual(meaning.leads(p), meaning.leads(barred(p, r)))
                if inside:
                    self.assertTrue(set(meaning.leads(p)) <= set(meaning.leads(q)))
            if not inside:
                row = unlike(barred(p, r), q)
                shows = Meaning.of_row(book, row)
                self.assertEqual(shows.leads(r), [])
                last = len(row) // 2
                self.assertIn((0, last), shows.leads(p))
                self.assertNotIn((0, last), shows.leads(q))
        self.assertGreater(kept, 40)

    def test_by_hand(self):
        book = Book(["x"], ["d", "e"])
        d, e, x = Flow.deed(book, "d"), Flow.deed(book, "e"), Flow.check(book, Say.test("x"))
        full = Flow.full(book)
        self.assertEqual(barred(p=full, r=e), d.often())
        self.assertEqual(barred(full, d | e), Flow.skip(book))
        self.assertEqual(barred(full, x), (full >> Flow.check(book, ~Say.test("x"))) - (full >> x >> full))
        self.assertEqual(barred(d >> e >> d, e >> d), Flow.stop(book))
        self.assertEqual(barred(d >> e >> d, d >> d), d >> e >> d)
        never = barred(full, d >> e.often() >> d)
        self.assertEqual(never, e.often() >> (Flow.skip(book) | d) >> e.often())
        self.assertEqual(barred((d >> e).often(), e >> d), Flow.skip(book) | d >> e)
        self.assertEqual(barred(full, d >> x), full - (full >> d >> x >> full))

    def test_unlike_books(self):
        book, other = Book(["x"], ["d"]), Book(["x"], ["d"], [(Say.test("x"), "d", Say.test("x"))])
        self.assertRaises(UnlikeBooks, barred, Flow.full(book), Flow.full(other))
        self.assertRaises(UnlikeBooks, barred, Flow.stop(book), Flow.stop(Book(["x"], ["e"])))
        again = Flow.deed(Book(["x"], ("d",), ()), "d")
        self.assertEqual(barred(Flow.full(book), again), Flow.skip(book))


class Sets(unittest.TestCase):
    def test_by_the_rows(self):
        """Of flows whose rows are all short, the rows themselves tell it."""
        found, sizes = 0, set()
        for chance, plain, book, [(tree, _), (other, q), (first, _)] in flow_cases(235, 200, 3, 3, others=("either",)):
            tree = richer(chance, tree, plain)
            p = flow_of(tree, plain, book)
            trees = [random_bar(chance, plain) for _ in range(chance.randrange(4))]
            trees += [chance.choice(trees + [first])] if chance.random() < 0.4 else []
            from_trees = [rows_of(one, plain, LIMIT) for one in trees]
            bars = [flow_of(one, plain, book) for one in trees]
            rest = rows_of(tree, plain, LIMIT) - rows_of(other, plain, LIMIT)
            good = [some for some in all_sets(len(bars)) if not left(rest, [from_trees[place] for place in some])]
            told = bars_wanting(p, q, bars)
            check_sets(self, len(bars), good, bars_enough(p, q, bars), told)
            firsts = [min(left(rest, [from_trees[place] for place in some]), key=order) for some in told]
            self.assertEqual(bars_shown(p, q, tuple(bars)), firsts)
            found += len(firsts)
            sizes.add((len(bars), len(told) > 1))
        self.assertGreater(found, 60)
        self.assertGreater(len(sizes), 6)

    def test_by_barring(self):
        several = 0
        for chance, plain, book, [(tree, _), (_, q)] in flow_cases(236, 60, 2):
            p = flow_of(richer(chance, tree, plain), plain, book)
            r, s, t = bars = [flow_of(random_bar(chance, plain), plain, book) for _ in range(3)]
            if chance.random() < 0.7:
                p, q = p.often(), barred(p.often(), r | s) | barred(p.often(), t)
            good = []
            for some in all_sets(3):
                bar = Flow.stop(book)
                for place in some:
                    bar = bar | bars[place]
                if barred(p, bar) <= q:
                    good.append(some)
            told = bars_wanting(p, q, bars)
            check_sets(self, 3, good, bars_enough(p, q, bars), told)
            rows = bars_shown(p, q, bars)
            self.assertEqual(len(rows), len(told))
            for some, row in zip(told, rows):
                flow = p
                for place in some:
                    flow = barred(flow, bars[place])
                self.assertEqual(row, unlike(flow, q))
            several += len(told) > 1
        self.assertGreater(several, 8)

    def test_by_hand(self):
        book = Book(["x"], ["d", "e"])
        d, e, x = Flow.deed(book, "d"), Flow.deed(book, "e"), Flow.check(book, Say.test("x"))
        p, q = d | e | d >> e, d
        bars = [e, x, d >> e, e >> e]
        self.assertEqual(bars_enough(p=p, q=q, bars=bars), [(0,)])
        self.assertEqual(bars_wanting(p=p, q=q, bars=bars), [(1, 2, 3)])
        self.assertEqual(bars_shown(p=p, q=q, bars=bars), [((), "e", ())])
        self.assertEqual(bars_enough(d >> e | x >> e, q, [d, x, e]), [(2,), (0, 1)])
        self.assertEqual(bars_wanting(d >> e | x >> e, q, [d, x, e]), [(0,), (1,)])
        self.assertEqual(bars_shown(d >> e | x >> e, q, [d, x, e]), [(("x",), "e", ()), ((), "d", (), "e", ())])
        for bars in ([], ()):
            self.assertEqual(bars_enough(q, p, bars), [()])
            self.assertEqual(bars_wanting(q, p, bars), [])
            self.assertEqual(bars_shown(q, p, bars), [])
            self.assertEqual(bars_enough(p, q, bars), [])
            self.assertEqual(bars_wanting(p, q, bars), [()])
            self.assertEqual(bars_shown(p, q, bars), [((), "e", ())])
        self.assertEqual(bars_enough(p, q, [e, e]), [(0,), (1,)])
        self.assertEqual(bars_wanting(p, q, [e, e]), [()])

    def test_errors(self):
        book, other = Book(["x"], ["d"]), Book(["x"], ["d"], [(Say.test("x"), "d", Say.test("x"))])
        d, good = Flow.deed(book, "d"), Flow.skip(book)
        wrong = [thing for thing in odd_things() if not isinstance(thing, Flow)]
        for call in (bars_enough, bars_wanting, bars_shown):
            for thing in wrong + [Flow.deed(other, "d"), [d], (d,), "d", Flow.stop(Book(["x"], ["e"]))]:
                for index, bars in enumerate([[thing, thing], [good, thing, None], (good, good, thing, good)]):
                    with self.assertRaises(BadBar) as caught:
                        call(d, d, bars)
                    self.assertEqual(caught.exception.index, index)
            for thing in [None, 0, True, "", "bars", {}, {0: d}, d, book, Say.yes()]:
                with self.assertRaises(BadBar) as caught:
                    call(d, d, thing)
                self.assertEqual(caught.exception.index, 0)
            for bars in ([None], None, [Flow.deed(other, "d")], []):
                self.assertRaises(UnlikeBooks, call, d, Flow.deed(other, "d"), bars)
            self.assertEqual(call(d, d, [Flow.full(Book(("x",), ["d"]))]), call(d, d, [Flow.full(book)]))

    def test_what_is_told_is_new(self):
        book = Book(["x"], ["d", "e"])
        d, e = Flow.deed(book, "d"), Flow.deed(book, "e")
        bars = [e, d]
        for call in (bars_enough, bars_wanting, bars_shown):
            told = call(d | e, d, bars)
            again = list(told)
            told.clear()
            self.assertEqual(call(d | e, d, bars), again)
            self.assertTrue(all(isinstance(one, tuple) for one in again))
        self.assertEqual(bars, [e, d])


if __name__ == "__main__":
    unittest.main()
