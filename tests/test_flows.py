"""[13] to [18], [3], [4]: flows, their edges and errors."""

import operator
import unittest

from deedmeanings.books import Book
from deedmeanings.errors import BadCount, NoDeed, NoTest, UnlikeBooks
from deedmeanings.flows import Flow, either, whilst
from deedmeanings.says import Say

A, B = Say.test("a"), Say.test("b")


def free():
    return Book(["a", "b"], ["d", "e"])


def other_books():
    return [Book(["a"], ["d", "e"]), Book(["a", "b"], ["d"]), Book(["a", "c"], ["d", "e"]),
            Book(["a", "b"], ["d", "e"], [(A, "d", A)])]


class Making(unittest.TestCase):
    def setUp(self):
        self.book = Book(["a"], ["d", "e"], [(A, "d", ~A)])

    def test_deed(self):
        flow = Flow.deed(self.book, "d")
        self.assertEqual(flow.rows(1), [((), "d", ()), ((), "d", ("a",)), (("a",), "d", ())])
        self.assertEqual([flow.count(length) for length in range(4)], [0, 3, 0, 0])
        for thing in [None, 1, "", "a", "f", ["d"], ("d",), {}, Say.yes(), True]:
            with self.assertRaises(NoDeed) as caught:
                Flow.deed(self.book, thing)
            self.assertIs(caught.exception.thing, thing)

    def test_check(self):
        self.assertEqual(Flow.check(self.book, A).rows(0), [(("a",),)])
        self.assertEqual(Flow.check(self.book, ~A).rows(0), [((),)])
        self.assertEqual(Flow.check(self.book, Say.yes()), Flow.skip(self.book))
        self.assertEqual(Flow.check(self.book, Say.no()), Flow.stop(self.book))
        self.assertEqual(Flow.check(self.book, A).count(1), 0)

    def test_check_of_foreign_tests(self):
        foreign = (Say.test("z") | Say.test("x")) & Say.test("y") & A
        for call in (lambda: Flow.check(self.book, foreign), lambda: whilst(foreign, Flow.skip(self.book)),
                     lambda: either(foreign, Flow.skip(self.book), Flow.stop(self.book))):
            with self.assertRaises(NoTest) as caught:
                call()
            self.assertEqual(caught.exception.name, "x")
        idle = A & (Say.test("x") | ~Say.test("x"))
        self.assertEqual(Flow.check(self.book, idle), Flow.check(self.book, A))

    def test_skip_stop_full(self):
        self.assertEqual(Flow.skip(self.book).rows(0), [((),), (("a",),)])
        self.assertEqual(Flow.skip(self.book).count(1), 0)
        self.assertIs(bool(Flow.stop(self.book)), False)
        self.assertIs(bool(Flow.skip(self.book)), True)
        self.assertEqual([Flow.full(self.book).count(length) for length in range(2)], [2, 7])
        self.assertEqual(~Flow.stop(self.book), Flow.full(self.book))

    def test_the_book_is_kept(self):
        for flow in (Flow.deed(self.book, "d"), Flow.check(self.book, A), Flow.skip(self.book),
                     Flow.stop(self.book), Flow.full(self.book), Flow.full(self.book).often(),
                     Flow.full(self.book) ** 2, ~Flow.skip(self.book), whilst(A, Flow.skip(self.book))):
            self.assertEqual(flow.book, self.book)

    def test_a_book_in_which_nothing_is_let(self):
        book = Book(["a"], ["d"], [(Say.yes(), "d", Say.no())])
        self.assertEqual(Flow.deed(book, "d"), Flow.stop(book))
        self.assertEqual(Flow.full(book), Flow.skip(book))
        self.assertEqual(Flow.full(book).count(60), 0)

    def test_a_book_without_tests(self):
        book = Book([], ["d"])
        flow = Flow.deed(book, "d").often()
        self.assertEqual(flow.rows(2), [((), "d", (), "d", ())])
        self.assertEqual(flow, Flow.full(book))
        self.assertEqual(flow.count(60), 1)


class Operators(unittest.TestCase):
    def setUp(self):
        self.book = Book(["a"], ["d", "e"])
        self.d, self.e = Flow.deed(self.book, "d"), Flow.deed(self.book, "e")
        self.a, self.off = Flow.check(self.book, A), Flow.check(self.book, ~A)

    def test_sequence(self):
        self.assertEqual((self.a >> self.d >> self.off).rows(1), [(("a",), "d", ())])
        self.assertEqual((self.a >> self.off), Flow.stop(self.book))
        self.assertEqual((self.d >> self.a >> self.e).count(2), 4)
        self.assertEqual((self.d >> Flow.stop(self.book)), Flow.stop(self.book))

    def test_powers(self):
        self.assertEqual(self.d ** 0, Flow.skip(self.book))
        self.assertEqual(self.d ** 1, self.d)
        self.assertEqual(self.d ** 3, self.d >> self.d >> self.d)
        self.assertEqual(Flow.stop(self.book) ** 0, Flow.skip(self.book))

    def test_often(self):
        loop = (self.a >> self.d).often()
        self.assertEqual(loop.rows(0), [((),), (("a",),)])
        self.assertEqual(loop.rows(2), [(("a",), "d", ("a",), "d", ()), (("a",), "d", ("a",), "d", ("a",))])
        self.assertEqual(Flow.stop(self.book).often(), Flow.skip(self.book))
        self.assertEqual((self.d | self.e).often(), Flow.full(self.book))

    def test_differences(self):
        self.assertEqual((self.d | self.e) - self.d, self.e)
        self.assertEqual(self.d - self.e, self.d)
        self.assertEqual(~(self.d | self.e) & (self.d | self.e), Flow.stop(self.book))
        self.assertEqual((~self.d).rows(1), self.e.rows(1))

    def test_either_and_whilst(self):
        self.assertEqual(either(A, self.d, self.e), self.a >> self.d | self.off >> self.e)
        self.assertEqual(whilst(A, self.d), (self.a >> self.d).often() >> self.off)
        self.assertEqual(either(p=self.d, q=self.e, say=A), either(A, self.d, self.e))
        self.assertEqual(whilst(p=self.d, say=A), whilst(A, self.d))
        self.assertEqual(whilst(Say.yes(), self.d), Flow.stop(self.book))
        self.assertEqual(whilst(Say.no(), self.d), Flow.skip(self.book))

    def test_the_example(self):
        busy, ready = Say.test("busy"), Say.test("ready")
        promises = [(ready, "wait", ready), (Say.yes(), "wait", ~busy)]

        def both(book):
            send, wait = Flow.deed(book, "send"), Flow.deed(book, "wait")
            return (whilst(busy, wait) >> send,
                    (Flow.check(book, busy) >> wait | Flow.check(book, ~busy)) >> send)

        p, q = both(Book(["busy", "ready"], ["send", "wait"], promises))
        self.assertEqual(p, q)
        p, q = both(Book(["busy", "ready"], ["send", "wait"], promises[:1]))
        self.assertIs(q <= p, False)
        self.assertEqual((q - p).first(), (("busy",), "wait", ("busy",), "send", ()))


class OtherWays(unittest.TestCase):
    def setUp(self):
        self.book = Book(["a"], ["d", "e"])
        self.d, self.e = Flow.deed(self.book, "d"), Flow.deed(self.book, "e")
        self.a, self.off = Flow.check(self.book, A), Flow.check(self.book, ~A)

    def test_begun(self):
        flow = self.a >> self.d >> self.off >> self.e
        self.assertEqual(flow.begun(), flow | self.a >> self.d >> self.off | self.a)
        self.assertEqual(Flow.stop(self.book).begun(), Flow.stop(self.book))
        stuck = Book(["a"], ["d", "e"], [(~A, "e", Say.no())])
        dead = Flow.deed(stuck, "d") >> Flow.deed(stuck, "e")
        self.assertEqual(dead.begun(), dead | Flow.skip(stuck) | Flow.deed(stuck, "d") >> Flow.check(stuck, A))

    def test_turned(self):
        book = Book(["a"], ["d", "e"], [(A, "d", ~A)])
        flow = Flow.check(book, A) >> Flow.deed(book, "d") >> Flow.deed(book, "e") >> Flow.check(book, A)
        turned = flow.turned()
        self.assertEqual(turned.book, book.turned())
        self.assertEqual(turned.rows(2), [(("a",), "e", (), "d", ("a",))])
        self.assertEqual(turned.turned(), flow)

    def test_under(self):
        strict = self.book.more([(A, "d", A)])
        self.assertEqual(self.d.under(strict), Flow.deed(strict, "d"))
        self.assertEqual((~self.d).under(strict), ~Flow.deed(strict, "d"))
        self.assertEqual(self.d.under(book=self.book), self.d)
        for book in (Book(["a"], ["d"]), Book(["b"], ["d", "e"]), Book([], ["d", "e"])):
            self.assertRaises(UnlikeBooks, lambda: self.d.under(book))
        self.assertRaises(UnlikeBooks, lambda: Flow.full(strict).under(self.book))
        self.assertRaises(UnlikeBooks, lambda: Flow.full(strict).under(self.book.more([(A, "e", A)])))

    def test_put(self):
        whole = self.d >> self.e >> self.d
        self.assertEqual(whole.put("d", self.e), self.e ** 3)
        self.assertEqual(whole.put("d", self.d), whole)
        self.assertEqual(whole.put("d", Flow.skip(self.book)), self.e)
        self.assertEqual(whole.put("d", Flow.stop(self.book)), Flow.stop(self.book))
        self.assertEqual(whole.put("d", self.a), self.a >> self.e >> self.a)
        self.assertEqual(whole.put(part=self.d >> self.d, deed="d"), self.d ** 2 >> self.e >> self.d ** 2)
        self.assertEqual(self.e.put("d", Flow.stop(self.book)), self.e)
        self.assertEqual(self.d.often().put("d", Flow.skip(self.book)), Flow.skip(self.book))

    def test_put_keeps_the_ends_of_each_step(self):
        book = Book(["a"], ["d", "e"], [(A, "d", ~A), (~A, "d", A)])
        d, e = Flow.deed(book, "d"), Flow.deed(book, "e")
        self.assertEqual(d.put("d", e), Flow.check(book, A) >> e >> Flow.check(book, ~A)
                         | Flow.check(book, ~A) >> e >> Flow.check(book, A))
        self.assertEqual(d.put("d", Flow.skip(book)), Flow.stop(book))
        self.assertEqual((d >> d).put("d", e).count(2), 2)
        self.assertEqual((d >> e).put("d", e | Flow.skip(book)), d.put("d", e) >> e)

    def test_put_takes_another_row_at_each_step(self):
        flow = (self.d >> self.d).put("d", self.d | self.e)
        self.assertEqual(flow, (self.d | self.e) >> (self.d | self.e))
        self.assertEqual(flow.count(2), 4 * 8)


class Asking(unittest.TestCase):
    def setUp(self):
        self.book = free()
        self.d, self.e = Flow.deed(self.book, "d"), Flow.deed(self.book, "e")

    def test_in(self):
        flow = self.d >> Flow.check(self.book, A & B) >> self.e
        self.assertIs(((), "d", ("a", "b"), "e", ("b",)) in flow, True)
        self.assertIs([[], "d", ["b", "a"], "e", ("b",)] in flow, True)
        self.assertIs(((), "d", ("a",), "e", ("b",)) in flow, False)
        self.assertIs(((),) in Flow.skip(self.book), True)
        self.assertIs((["b", "a"],) in Flow.skip(self.book), True)

    def test_in_of_other_objects(self):
        full = Flow.full(self.book)
        self.assertIs(((), "d", ()) in full, True)
        for thing in [None, 0, 1, True, "", "d", (), [], {}, {"a": 1}, Say.yes(), self.book, full, ("d",), ((), "d"),
                      ((), "d", (), "d"), ("d", ()), ((), (), ()), ((), "f", ()), ((), "a", ()), ((), "d", ("c",)),
                      ((), "d", ("a", "a")), ((), "d", None), (None,), ("a",), ("",), (1,), ((1,),), ((), 0, ()),
                      ((), ["d"], ()), ((), True, ()), (("d",),), {0: ()}, ((), "d", "a"), ((), "d", {"a": 1}),
                      [[[]]], ((), self.book, ()), (full,)]:
            self.assertIs(thing in full, False, thing)
        strict = Book(["a"], ["d"], [(A, "d", A)])
        self.assertIs((("a",), "d", ()) in Flow.full(strict), False)
        self.assertIs((("a",), "d", ("a",)) in Flow.full(strict), True)

    def test_first_and_length(self):
        flow = self.e | self.d >> self.d
        self.assertEqual(flow.first(), ((), "e", ()))
        self.assertEqual(flow.length(), 1)
        self.assertEqual((self.d | self.e).first(), ((), "d", ()))
        self.assertEqual((Flow.check(self.book, B) >> self.e).first(), (("a", "b"), "e", ()))
        self.assertIsNone(Flow.stop(self.book).first())
        self.assertIsNone(Flow.stop(self.book).length())
        self.assertEqual(Flow.skip(self.book).length(), 0)
        self.assertEqual(Flow.skip(self.book).first(), ((),))

    def test_first_goes_on_only_where_an_end_is_near(self):
        # The least deed leads to a longer row here, so that it may not be taken.
        late = Flow.check(self.book, ~A) >> self.d >> self.d >> self.d
        flow = late | Flow.check(self.book, ~A) >> self.e >> Flow.check(self.book, A & B) >> self.d
        self.assertEqual(flow.first(), ((), "e", ("a", "b"), "d", ()))

    def test_is_endless(self):
        self.assertIs(self.d.often().is_endless(), True)
        self.assertIs((self.d ** 3).is_endless(), False)
        self.assertIs(Flow.stop(self.book).is_endless(), False)
        self.assertIs(Flow.skip(self.book).is_endless(), False)
        self.assertIs((~self.d).is_endless(), True)
        loop = (Flow.check(self.book, A) >> self.d >> Flow.check(self.book, ~A)).often()
        self.assertIs(loop.is_endless(), False)
        self.assertEqual(loop.count(2), 0)
        self.assertIs((self.d.often() >> Flow.stop(self.book)).is_endless(), False)
        ends = Book(["a"], ["d"], [(A, "d", Say.no()), (~A, "d", A)])
        self.assertIs(Flow.full(ends).is_endless(), False)

    def test_is_sure(self):
        a = Flow.check(self.book, A)
        self.assertIs(self.d.is_sure(), True)
        self.assertIs(Flow.stop(self.book).is_sure(), True)
        self.assertIs(Flow.skip(self.book).is_sure(), True)
        self.assertIs((self.d | self.e).is_sure(), False)
        self.assertIs((self.d | Flow.skip(self.book)).is_sure(), False)
        self.assertIs(self.d.often().is_sure(), False)
        self.assertIs(either(A, self.d, self.e).is_sure(), True)
        self.assertIs(whilst(A, self.d >> self.e).is_sure(), True)
        self.assertIs((self.d >> a >> self.e | self.d >> Flow.check(self.book, ~A)).is_sure(), True)
        self.assertIs((self.d >> a >> self.e | self.d >> Flow.check(self.book, B)).is_sure(), False)

    def test_a_choice_that_the_book_does_not_let_is_none(self):
        book = Book(["a"], ["d", "e"], [(Say.yes(), "e", Say.no())])
        self.assertIs((Flow.deed(book, "d") | Flow.deed(book, "e")).is_sure(), True)
        book = Book(["a"], ["d", "e"], [(Say.yes(), "d", A)])
        d, e, off = Flow.deed(book, "d"), Flow.deed(book, "e"), Flow.check(book, ~A)
        self.assertIs((d | d >> off >> e).is_sure(), True)
        self.assertIs((d | d >> e).is_sure(), False)

    def test_a_choice_at_truths_that_never_come_there_is_none(self):
        keeps = [(A, "d", A), (~A, "d", ~A)]
        book = Book(["a", "b"], ["d", "e", "f"], keeps)
        d, e, f = (Flow.deed(book, name) for name in "def")
        a, off = Flow.check(book, A), Flow.check(book, ~A)
        ends = (a | off >> f >> Flow.check(book, B)) >> d
        goes_on = (a | off >> f >> Flow.check(book, ~B)) >> d >> off >> e
        self.assertIs((ends | goes_on).is_sure(), True)
        free_of_it = Book(["a", "b"], ["d", "e", "f"], keeps[1:])
        self.assertIs((ends | goes_on).is_endless(), False)
        d, e, f = (Flow.deed(free_of_it, name) for name in "def")
        a, off = Flow.check(free_of_it, A), Flow.check(free_of_it, ~A)
        ends = (a | off >> f >> Flow.check(free_of_it, B)) >> d
        goes_on = (a | off >> f >> Flow.check(free_of_it, ~B)) >> d >> off >> e
        self.assertIs((ends | goes_on).is_sure(), False)

    def test_bad_counts(self):
        for thing in [None, -1, True, False, "1", "", [], (1,), {}, Say.yes(), self.d]:
            for call in (lambda: self.d.count(thing), lambda: self.d.rows(thing)):
                with self.assertRaises(BadCount) as caught:
                    call()
                self.assertIs(caught.exception.thing, thing)

    def test_count_and_rows(self):
        full = Flow.full(self.book)
        self.assertEqual(full.count(60), 4 * 8 ** 60)
        self.assertEqual(full.count(n=1), 32)
        rows = full.rows(n=3)
        self.assertEqual(len(rows), 4 * 8 ** 3)
        self.assertEqual(rows, sorted(rows))
        self.assertTrue(all(isinstance(row, tuple) and row in full for row in rows))
        self.assertEqual(Flow.stop(self.book).rows(0), [])


class Equal(unittest.TestCase):
    def test_equal_books_in_another_order(self):
        one = Book(["a", "b"], ["d", "e"], [(A, "d", A), (B, "e", B)])
        two = Book(["b", "a"], ["e", "d"], [(B, "e", B), (A & B, "d", A), (A & ~B, "d", A)])
        self.assertEqual(Flow.deed(one, "d"), Flow.deed(two, "d"))
        self.assertEqual(Flow.deed(one, "d") | Flow.deed(two, "e"), Flow.deed(two, "e") | Flow.deed(one, "d"))
        self.assertIs(Flow.deed(one, "d") <= Flow.full(two), True)

    def test_unequal_books(self):
        flow = Flow.skip(free())
        for book in other_books():
            self.assertIs(flow == Flow.skip(book), False)
            self.assertIs(flow != Flow.skip(book), True)
            self.assertIs(Flow.stop(free()) == Flow.stop(book), False)

    def test_equal_to_nothing_else(self):
        flow = Flow.skip(free())
        for thing in [None, 0, True, "", [], (), {}, Say.yes(), free(), [((),)]]:
            self.assertIs(flow == thing, False)
            self.assertIs(thing == flow, False)
            self.assertIs(flow != thing, True)


    def test_truths_that_come_later_count_too(self):
        for before, behind in ((A, ~A), (~A, A)):
            book = Book(["a"], ["d", "f"], [(before, "d", behind), (~before, "d", ~behind)])
            d, f = Flow.deed(book, "d"), Flow.deed(book, "f")
            for say in (A, ~A):
                less = d >> (Flow.check(book, say) | f)
                more = d >> (Flow.skip(book) | f)
                self.assertIs(more <= less, False)
                self.assertIs(less < more, True)
            turns = Book(["a"], ["d", "f"], [(A, "d", ~A), (~A, "d", A)])
            d, f = Flow.deed(turns, "d"), Flow.deed(turns, "f")
            self.assertIs(d >> (Flow.skip(turns) | f) <= d >> (Flow.check(turns, before) | f), False)


class Unlike(unittest.TestCase):
    def test_operators(self):
        flow = Flow.full(free())
        for book in other_books():
            other = Flow.skip(book)
            for work in (operator.rshift, operator.or_, operator.and_, operator.sub, operator.le, operator.lt,
                         operator.ge, operator.gt):
                self.assertRaises(UnlikeBooks, work, flow, other)
                self.assertRaises(UnlikeBooks, work, other, flow)

    def test_ahead_of_all_other_errors(self):
        flow = Flow.full(free())
        for book in other_books():
            other = Flow.skip(book)
            self.assertRaises(UnlikeBooks, lambda: flow.put("none", other))
            self.assertRaises(UnlikeBooks, lambda: flow.put(None, other))
            self.assertRaises(UnlikeBooks, lambda: flow.put("d", other))
            self.assertRaises(UnlikeBooks, lambda: either(Say.test("zz"), flow, other))
            self.assertRaises(UnlikeBooks, lambda: either(A, flow, other))
        for thing in [None, 1, "", "a", "f", ["d"], {}, Say.yes()]:
            with self.assertRaises(NoDeed) as caught:
                flow.put(thing, flow)
            self.assertIs(caught.exception.thing, thing)


class Copies(unittest.TestCase):
    def test_rows_are_new(self):
        flow = Flow.deed(free(), "d")
        rows = flow.rows(1)
        flow.rows(1).clear()
        self.assertEqual(flow.rows(1), rows)

    def test_operators_change_nothing(self):
        book = free()
        d, e = Flow.deed(book, "d"), Flow.deed(book, "e")
        for work in (operator.ior, operator.iand, operator.isub, operator.irshift):
            p = d
            p = work(p, e)
            self.assertEqual(d, Flow.deed(book, "d"))
            self.assertEqual(e, Flow.deed(book, "e"))
        p = d
        p |= e
        p >>= d
        p **= 2
        p -= e
        p &= p
        self.assertEqual(p, ((d | e) >> d) ** 2 - e)
        self.assertEqual(d, Flow.deed(book, "d"))

    def test_methods_change_nothing(self):
        book = free()
        flow = whilst(A, Flow.deed(book, "d")) | Flow.deed(book, "e")
        rows = [flow.rows(length) for length in range(4)]
        flow.often(), flow.begun(), flow.turned(), flow.under(book), flow.put("d", flow), ~flow, flow ** 2
        flow.first(), flow.length(), flow.is_endless(), flow.is_sure(), flow.count(9), bool(flow), () in flow
        row = [[], "e", ["b", "a"]]
        self.assertIs(row in flow, True)
        self.assertEqual(row, [[], "e", ["b", "a"]])
        self.assertEqual([flow.rows(length) for length in range(4)], rows)

    def test_asked_again(self):
        def once():
            book = Book(("a", "b"), ["d", "e"], [(A, "d", B)])
            flow = whilst(A, Flow.deed(book, "d")) - Flow.deed(book, "e") ** 2
            return [flow.rows(2), flow.first(), flow.count(30), flow.is_sure(), book.promises(), flow == ~~flow]
        self.assertEqual(once(), once())

    def test_by_name(self):
        book = free()
        self.assertEqual(Flow.deed(deed="d", book=book), Flow.deed(book, "d"))
        self.assertEqual(Flow.check(say=A, book=book), Flow.check(book, A))
        self.assertEqual(Flow.skip(book=book), Flow.skip(book))
        self.assertEqual(Flow.stop(book=book), Flow.stop(book))
        self.assertEqual(Flow.full(book=book), Flow.full(book))


if __name__ == "__main__":
    unittest.main()
