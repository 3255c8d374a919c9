"""[6]: inputs at the limits get their answers."""

import unittest

from deedmeanings.books import Book
from deedmeanings.comparing import cover, is_cover, is_parting, parting, unlike
from deedmeanings.flows import Flow, either, whilst
from deedmeanings.holding import holds, needed, reached, strongest_kept, thereafter, weakest_kept, when
from deedmeanings.gaps import loosest, loosest_end, loosest_start
from deedmeanings.ledgers import Ledger
from deedmeanings.programs import Program, program_of
from deedmeanings.promising import enough, shown, wanting
from deedmeanings.readers import reader_of
from deedmeanings.says import Say

from tests.plain import all_truths, book_of, chances, flow_of, free_book, random_book, random_tree, say_of
from tests.test_programs import random_line
from tests.test_promising import kept_rows, random_promises

TESTS = ["a", "b", "c", "x"]
DEEDS = ["d", "e", "f", "g", "h"]


def largest_books():
    """Books with four tests and five deeds: free, and with a promise for each truths and deed."""
    for density in (1.0, 0.7, 0.4, 0.1):
        yield random_book(chances(int(density * 10)), TESTS, DEEDS, density)


def some_check(chance, book):
    return Flow.check(book, say_of(TESTS, [truths for truths in all_truths(TESTS) if chance.random() < 0.6]))


class Limits(unittest.TestCase):
    def test_says_of_five_tests(self):
        names = ["a", "b", "c", "d", "e"]
        most = Say.no()
        for some in all_truths(names):
            if len(some) == 3:
                most = most | Say.of_terms([(some, ())])
        self.assertEqual([yes for yes, _ in most.terms()], [some for some in all_truths(names) if len(some) == 3])
        self.assertEqual(most.given("a", True).tests(), ["b", "c", "d", "e"])
        self.assertEqual(Say.of_terms(most.terms()), most)
        self.assertEqual(len((most ^ Say.test("a")).tests()), 5)

    def test_books(self):
        for plain in largest_books():
            book = book_of(plain)
            self.assertEqual(len(book.truths()), 16)
            self.assertEqual(Book(TESTS, DEEDS, book.promises()), book)
            self.assertEqual(book.turned().turned(), book)
            self.assertEqual(book & book, book | book)

    def test_a_free_flow_that_looks_far_back(self):
        # Whether x held nine deeds ago has to be kept for each of the last deeds: many sets of places.
        book = Book(TESTS, ["d"])
        flow = Flow.full(book) >> Flow.check(book, Say.test("x")) >> Flow.deed(book, "d") ** 9
        self.assertEqual([flow.count(length) for length in (8, 9, 10, 60)], [0, 16 ** 10 // 2, 16 ** 11 // 2,
                                                                            16 ** 61 // 2])
        self.assertEqual((~flow).count(60), 16 ** 61 // 2)
        self.assertEqual(flow.length(), 9)
        self.assertIs(flow.is_endless(), True)
        self.assertIs(flow.is_sure(), False)
        self.assertEqual(flow.turned().turned(), flow)
        self.assertEqual(flow.begun(), Flow.full(book))

    def test_flows_with_ten_deeds(self):
        for plain in largest_books():
            book = book_of(plain)
            chance = chances(51)
            d = Flow.deed(book, "d")
            far = Flow.full(book) >> some_check(chance, book) >> d ** 3 >> d ** 2
            loop = far.often()
            for flow in (far, ~far, loop, loop.begun(), far.turned(), loop & ~far, far.put("d", Flow.skip(book))):
                first = flow.first()
                self.assertIs(first is None, not flow)
                self.assertIs(first in flow, first is not None)
                self.assertEqual((~flow).count(60) + flow.count(60), Flow.full(flow.book).count(60))
                self.assertEqual(~~flow, flow)
                self.assertIs(flow <= ~flow, not flow)

    def test_trees_with_ten_deeds(self):
        for plain in largest_books():
            chance = chances(52)
            book = book_of(plain)
            for _ in range(6):
                tree = random_tree(chance, plain, 10, (">>", ">>", "|", "|"), ("often", "either", "whilst"))
                flow = flow_of(tree, plain, book)
                self.assertEqual(flow | ~flow, Flow.full(book))
                self.assertEqual(flow & ~flow, Flow.stop(book))
                self.assertEqual(flow.count(60) + (~flow).count(60), Flow.full(book).count(60))

    def test_two_flows_with_five_deeds_each(self):
        for plain in largest_books():
            chance = chances(53)
            book = book_of(plain)
            for _ in range(6):
                p, q = (flow_of(random_tree(chance, plain, 5, (">>", ">>", "|"), ("often", "whilst")), plain, book)
                        for _ in range(2))
                say = say_of(TESTS, all_truths(TESTS)[::2])
                self.assertEqual(p - q | p & q, p)
                self.assertIs(p <= q, p - q == Flow.stop(book))
                self.assertEqual(either(say, p, q) | either(~say, p, q), p | q)
                self.assertEqual(whilst(say, p).is_endless() or bool(whilst(say, p)), bool(whilst(say, p)))
                self.assertTrue(p >> q <= (p | q).often())
                for deed in ("d", "e"):
                    self.assertIs(p.put(deed, q) <= Flow.full(book), True)

    def test_put_within_the_limit(self):
        # Three steps are replaced by parts of three deeds each, and each remembers where it has to end.
        for plain in largest_books():
            book = book_of(plain)
            d, e, check = Flow.deed(book, "d"), Flow.deed(book, "e"), some_check(chances(54), book)
            whole = (d >> e).often() >> d
            part = (e >> check).often() >> d
            flow = whole.put("d", part)
            self.assertEqual(flow.put("d", Flow.stop(book)).first(), None)
            self.assertIs(flow.first() in flow, True)

    def test_put_into_flows_that_lack_little(self):
        # Very many sets of places are come to, but most of their places stand in for one another.
        plain = random_book(chances(7), TESTS, DEEDS, 0.7)
        book = book_of(plain)
        d, e, h = [Flow.deed(book, deed) for deed in ("d", "e", "h")]
        check = some_check(chances(61), book)
        for whole, part in (((check | ~d >> e).often(), ~(check >> e)),
                            ((~(check | ~d >> e)).often(), ~(check >> e >> h.often()))):
            flow = whole.put("d", part)
            self.assertEqual(flow.count(60) + (~flow).count(60), Flow.full(book).count(60))
            self.assertTrue(flow.put("d", Flow.stop(book)) <= flow)
            self.assertEqual(reader_of(flow), reader_of(~~flow))

    def test_a_free_book_has_what_is_counted(self):
        book = book_of(free_book(TESTS, DEEDS))
        flow = Flow.full(book) >> Flow.deed(book, "h") >> Flow.deed(book, "g") ** 3
        self.assertEqual(flow.count(60), 16 ** 61 * 5 ** 56)
        self.assertEqual(len(Flow.deed(book, "d").rows(1)), 256)
        self.assertEqual(len((Flow.deed(book, "d") | Flow.deed(book, "h")).rows(1)), 512)

    def test_readers_covers_and_partings(self):
        for plain in largest_books():
            chance = chances(55)
            book = book_of(plain)
            d, check = Flow.deed(book, "d"), some_check(chance, book)
            far = d.often() >> check >> d ** 3
            near = far | (Flow.deed(book, "e") >> check).often() >> d
            reader = reader_of(far)
            self.assertEqual(len(reader), len({reader.way(place) for place in range(len(reader))}))
            self.assertEqual(reader.flow(), far)
            told = cover(far, near)
            self.assertIs(is_cover(far, near, told), True)
            self.assertIs(is_cover(far, near, told[1:]), False)
            self.assertIsNone(unlike(far, near))
            self.assertEqual(cover(near, far) is None, bool(near - far))
            thing = parting(near, far)
            self.assertIs(thing is None or is_parting(near, far, thing), True)

    def test_a_reader_with_many_places(self):
        book = Book(TESTS, ["d"])
        flow = Flow.full(book) >> Flow.check(book, Say.test("x")) >> Flow.deed(book, "d") ** 8
        reader = reader_of(flow)
        self.assertEqual(len(reader), 256)
        self.assertEqual(reader.way(255), (("a", "b", "c", "x"), "d") * 8)
        self.assertEqual(len(reader.ends(255)), 16)

    def test_what_holds(self):
        for plain in largest_books():
            chance = chances(56)
            book = book_of(plain)
            p, q = (flow_of(random_tree(chance, plain, 5, (">>", "|"), ("often", "whilst")), plain, book)
                    for _ in range(2))
            say = say_of(TESTS, all_truths(TESTS)[::3])
            self.assertIs(holds(say, p, reached(say, p)), True)
            self.assertIs(holds(needed(p, say), p, say), True)
            for kept in (strongest_kept(say, p), weakest_kept(p, say)):
                self.assertIs(holds(kept, p, kept), True)
            self.assertTrue(Flow.check(book, when(p, q)) >> p <= q)
            self.assertTrue(p >> Flow.check(book, thereafter(p, q)) <= q)

    def test_five_promises(self):
        for plain in largest_books():
            chance = chances(57)
            book = book_of(plain)
            promises = random_promises(chance, plain, 5)
            d, e, check = Flow.deed(book, "d"), Flow.deed(book, "e"), some_check(chance, book)
            p, q = (d | e).often() >> check >> d, kept_rows((d | e).often() >> check >> d, promises[:2])
            self.assertTrue(any(set(some) <= {0, 1} for some in enough(p, q, promises)))
            for some, row in zip(wanting(p, q, promises), shown(p, q, promises), strict=True):
                self.assertTrue(row in (p - q).under(book.more([promises[place] for place in some])))

    def test_gaps(self):
        for plain in largest_books():
            chance = chances(58)
            book = book_of(plain)
            d, e, check = Flow.deed(book, "d"), Flow.deed(book, "e"), some_check(chance, book)
            ahead, behind, whole = (d >> check).often(), check >> (e | d), (d | e).often() >> check >> d ** 3
            flow = loosest(ahead, whole, behind)
            self.assertTrue(ahead >> flow >> behind <= whole)
            self.assertEqual(flow, loosest_end(ahead, loosest_start(whole, behind)))
        book = Book(TESTS, ["d"])
        d = Flow.deed(book, "d")
        whole = Flow.full(book) >> Flow.check(book, Say.test("x")) >> d ** 7
        self.assertEqual(loosest(d.often(), whole, d), Flow.full(book) >> Flow.check(book, Say.test("x")) >> d ** 6)

    def test_programs_of_twenty_lines(self):
        for plain in largest_books():
            chance = chances(59)
            book = book_of(plain)
            for _ in range(5):
                lines = [random_line(chance, plain, 20, ("f", "g", "h")) for _ in range(20)]
                program = Program(book, lines)
                clean = program.clean()
                self.assertEqual((clean.dead(), clean.decided()), ([], []))
                self.assertEqual(clean.flow(), program.flow())
                self.assertEqual((program + clean).flow(), program.flow() >> program.flow())
                self.assertEqual(program_of(program.flow()).flow(), program.flow())
                for say in program.known(Say.test("a")):
                    self.assertTrue(set(say.tests()) <= set(TESTS))

    def test_ledgers(self):
        for plain in largest_books():
            chance = chances(60)
            book = book_of(plain)
            first, *others = [flow_of(random_tree(chance, plain, 5, (">>", "|"), ("often", "whilst")), plain, book)
                              for _ in range(6)]
            ledger = Ledger(first)
            for name, promise in zip("abcde", random_promises(chance, plain, 5)):
                ledger.assume(name, promise)
            for name, flow in zip("abcde", others):
                ledger.propose(name, flow)
                ledger.propose(name * 2, ledger.flow() & flow)
            self.assertEqual(len(ledger), 10)
            self.assertIn(ledger.state("aa"), ("same", "less"))
            ledger.take("aa")
            self.assertTrue(ledger.flow() <= first)
            for _ in range(16):
                ledger.undo()
            self.assertEqual(ledger.flow(), first)


if __name__ == "__main__":
    unittest.main()
