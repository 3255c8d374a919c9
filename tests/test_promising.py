"""[29], [30], [42]: which promises are needed, against going through all sets of them."""

import itertools
import unittest

from deedmeanings.books import Book
from deedmeanings.errors import BadPromise, UnlikeBooks
from deedmeanings.flows import Flow, whilst
from deedmeanings.promising import enough, shown, wanting
from deedmeanings.says import Say

from tests.plain import all_truths, rows_of, say_of
from tests.things import flow_cases, odd_things

A, B = Say.test("a"), Say.test("b")


def all_sets(count):
    return [some for size in range(count + 1) for some in itertools.combinations(range(count), size)]


def random_promises(chance, plain, many):
    every = all_truths(plain[0])

    def some(share):
        return say_of(plain[0], [truths for truths in every if chance.random() < share])
    return [(some(0.6), chance.choice(plain[1]), some(0.5)) for _ in range(many)]


def keeps(row, promises):
    return not any(deed == row[at + 1] and before.holds(row[at]) and not behind.holds(row[at + 2])
                   for before, deed, behind in promises for at in range(0, len(row) - 1, 2))


def kept_rows(p, promises):
    """The flow of the rows of p that keep promises, told by putting for each deed those steps that do."""
    for before, deed, behind in promises:
        step = Flow.deed(p.book, deed)
        p = p.put(deed, Flow.check(p.book, ~before) >> step | step >> Flow.check(p.book, behind))
    return p


def check_sets(case, count, good, told_enough, told_wanting):
    """Holds what is told against the sets of which it is known which ones are enough."""
    least = [some for some in good if not any(set(other) < set(some) for other in good)]
    bad = [some for some in all_sets(count) if some not in good]
    greatest = [some for some in bad if not any(set(other) > set(some) for other in bad)]
    case.assertEqual(told_enough, least)
    case.assertEqual(told_wanting, greatest)
    # With more places a set stays enough; each kind of sets tells the other one.
    for some in all_sets(count):
        case.assertEqual(some in good, any(set(one) <= set(some) for one in least))
        meets_all = all(set(some) - set(one) for one in greatest)
        case.assertEqual(some in good, meets_all)
        lacks_all = all(set(one) - set(some) for one in least)
        case.assertEqual(some in bad, lacks_all)


class Sets(unittest.TestCase):
    def test_by_the_books(self):
        seen = []
        for chance, plain, book, [(_, p), (_, q)] in flow_cases(91, 60, 2):
            promises = random_promises(chance, plain, chance.randrange(6))
            if promises and chance.random() < 0.3:
                promises[-1] = promises[0]
            if chance.random() < 0.8:
                p = p | Flow.deed(book, plain[1][0]) >> Flow.deed(book, plain[1][-1])
                q = Flow.stop(book)
                for many in (1, 2):
                    q = q | kept_rows(p, [chance.choice(promises) for _ in promises[:many]])
            good = []
            for some in all_sets(len(promises)):
                strict = book.more([promises[place] for place in some])
                if p.under(strict) <= q.under(strict):
                    good.append(some)
            check_sets(self, len(promises), good, enough(p, q, promises), wanting(p, q, promises))
            seen.append(len(enough(p, q, promises)) + len(wanting(p, q, promises)))
        self.assertGreater(sum(many > 1 for many in seen), 20)
        self.assertGreater(max(seen), 3)

    def test_by_the_rows(self):
        """Of flows whose rows are all short, the rows themselves tell it."""
        found = 0
        for chance, plain, book, [(tree, p), (other, q)] in flow_cases(92, 140, 2, 3, others=("either",)):
            promises = random_promises(chance, plain, 1 + chance.randrange(5))
            rest = sorted(rows_of(tree, plain, 3) - rows_of(other, plain, 3), key=lambda row: (len(row), row))
            good = [some for some in all_sets(len(promises))
                    if not any(keeps(row, [promises[place] for place in some]) for row in rest)]
            told = wanting(p, q, promises)
            check_sets(self, len(promises), good, enough(p, q, promises), told)
            firsts = [next(row for row in rest if keeps(row, [promises[place] for place in some])) for some in told]
            self.assertEqual(shown(p, q, promises), firsts)
            found += len(firsts)
            for some, row in zip(told, firsts):
                for place in set(range(len(promises))) - set(some):
                    self.assertTrue(any(not keeps(row, [promises[place]]) for row in firsts))
        self.assertGreater(found, 50)

    def test_shown_rows(self):
        for chance, plain, book, [(_, p), (_, q)] in flow_cases(93, 50, 2):
            promises = random_promises(chance, plain, 4)
            told = wanting(p, q, promises)
            rows = shown(p, q, promises)
            self.assertEqual(len(rows), len(told))
            for some, row in zip(told, rows):
                strict = book.more([promises[place] for place in some])
                self.assertEqual(row, (p - q).under(strict).first())
                self.assertTrue(row in p and row not in q)


class ByHand(unittest.TestCase):
    def setUp(self):
        self.book = Book(["a", "b"], ["d", "e"])
        self.d, self.e = Flow.deed(self.book, "d"), Flow.deed(self.book, "e")

    def test_ordinary(self):
        a, b = Flow.check(self.book, A), Flow.check(self.book, B)
        promises = [(A, "d", A & B), (A, "d", B), (B, "e", ~A), (A, "d", A)]
        self.assertEqual(enough(a >> self.d, self.d >> b, promises), [(0,), (1,)])
        self.assertEqual(wanting(a >> self.d, self.d >> b, promises), [(2, 3)])
        self.assertEqual(shown(a >> self.d, self.d >> b, promises), [(("a",), "d", ("a",))])
        self.assertEqual(enough(a >> self.d, self.d >> a >> b, promises), [(0,), (1, 3)])
        self.assertEqual(wanting(a >> self.d, self.d >> a >> b, promises), [(1, 2), (2, 3)])
        self.assertEqual(enough(q=self.e, promises=promises, p=self.d), [])
        self.assertEqual(wanting(q=self.e, promises=promises, p=self.d), [(0, 1, 2, 3)])
        self.assertEqual(shown(q=self.e, promises=tuple(promises), p=self.d), [((), "d", ())])
        self.assertEqual(enough(self.d, self.d, promises), [()])
        self.assertEqual(wanting(self.d, self.d, promises), [])
        self.assertEqual(shown(self.d, self.d, promises), [])

    def test_no_promises_and_the_same_one_twice(self):
        a, b = Flow.check(self.book, A), Flow.check(self.book, B)
        for promises in ([], ()):
            self.assertEqual(enough(self.d, self.d, promises), [()])
            self.assertEqual(enough(self.d, self.e, promises), [])
            self.assertEqual(wanting(self.d, self.e, promises), [()])
            self.assertEqual(wanting(self.d, self.d, promises), [])
            self.assertEqual(shown(self.d, self.e, promises), [((), "d", ())])
        twice = [(A, "d", B), [A, "d", B]]
        self.assertEqual(enough(a >> self.d, self.d >> b, twice), [(0,), (1,)])
        self.assertEqual(wanting(a >> self.d, self.d >> b, twice), [()])

    def test_the_example(self):
        for names in (("busy", "ready", "send", "wait"), ("b", "z", "e", "d"), ("z", "a", "y", "x")):
            busy, ready = Say.test(names[0]), Say.test(names[1])
            promises = [(ready, names[3], ready), (Say.yes(), names[3], ~busy)]

            def both(book):
                send, wait = Flow.deed(book, names[2]), Flow.deed(book, names[3])
                return (whilst(busy, wait) >> send,
                        (Flow.check(book, busy) >> wait | Flow.check(book, ~busy)) >> send)

            p, q = both(Book(names[:2], names[2:], promises))
            self.assertEqual(p, q)
            p, q = both(Book(names[:2], names[2:], promises[:1]))
            self.assertIs(q <= p, False)
            # The first truths at which busy holds: alone, or beside ready if that name is the lesser one.
            held = (names[0],) if names[0] < names[1] else (names[1], names[0])
            first = (held, names[3], held, names[2], ())
            self.assertEqual((q - p).first(), first)
            p, q = both(Book(names[:2], names[2:]))
            self.assertEqual(enough(q, p, promises), [(1,)])
            self.assertEqual(wanting(q, p, promises), [(0,)])
            self.assertEqual(shown(q, p, promises), [first])

    def test_what_is_told_is_new(self):
        promises = [(A, "d", B), (B, "d", A)]
        for call in (enough, wanting, shown):
            told = call(self.d, self.d >> Flow.check(self.book, B), promises)
            again = list(told)
            told.clear()
            self.assertEqual(call(self.d, self.d >> Flow.check(self.book, B), promises), again)
            self.assertTrue(all(isinstance(one, tuple) for one in again))
        self.assertEqual(promises, [(A, "d", B), (B, "d", A)])

    def test_bad_promises(self):
        good = (A, "d", B)
        for thing in odd_things() + [(A, "d"), (A, "f", B), (A, "d", Say.test("z")), (Say.test("d"), "d", A),
                                     ("a", "d", "b"), (A, ["d"], B), (A, None, B), (good,)]:
            for call in (enough, wanting, shown):
                for index, promises in enumerate([[thing, thing], [good, thing, None], (good, good, thing, good)]):
                    with self.assertRaises(BadPromise) as caught:
                        call(self.d, self.e, promises)
                    self.assertEqual(caught.exception.index, index)
        for thing in [None, 0, "", "promises", {}, {0: good}, A, self.book, self.d]:
            for call in (enough, wanting, shown):
                with self.assertRaises(BadPromise) as caught:
                    call(self.d, self.d, thing)
                self.assertEqual(caught.exception.index, 0)

    def test_unlike_books_first(self):
        other = Flow.stop(Book(["a", "b"], ["d", "e"], [(A, "d", A)]))
        for call in (enough, wanting, shown):
            self.assertRaises(UnlikeBooks, call, self.d, other, [None])
            self.assertRaises(UnlikeBooks, call, other, self.d, None)


if __name__ == "__main__":
    unittest.main()
