"""[10], [11], [12]: books."""

import unittest

from deedmeanings.books import Book
from deedmeanings.errors import BadDeeds, BadPromise, BadTests, BadTruths, NoDeed, UnlikeBooks
from deedmeanings.flows import Flow
from deedmeanings.says import Say

from tests.plain import all_truths, book_of, chances, exactly, free_book, random_book, say_of, turned_book

TESTS = ["busy", "a", "ready", "c"]
DEEDS = ["send", "wait", "b", "zz", "go"]
NO_LISTS = [None, 0, True, "", "ab", {}, {"a": 1}, Say.yes()]
SHAPES = [(0, 1), (0, 5), (1, 1), (1, 3), (2, 2), (2, 5), (3, 2), (4, 1), (4, 5)]


def random_say(chance, tests):
    return say_of(tests, [truths for truths in all_truths(tests) if chance.random() < 0.5])


def random_promises(chance, tests, deeds, many):
    return [(random_say(chance, tests), chance.choice(deeds), random_say(chance, tests)) for _ in range(many)]


def some_books(seed):
    """Triples of tests, deeds and promises, with none to four tests and one to five deeds."""
    chance = chances(seed)
    for tests, deeds in SHAPES:
        for many in (0, 1, 3, 6):
            names = TESTS[:tests]
            yield names, DEEDS[:deeds], random_promises(chance, names, DEEDS[:deeds], many)


def is_let(promises, ahead, deed, behind):
    return all(second.holds(behind) for first, other, second in promises if other == deed and first.holds(ahead))


class Making(unittest.TestCase):
    def test_steps_are_let_as_the_promises_tell(self):
        for tests, deeds, promises in some_books(1):
            book = Book(tests, deeds, promises)
            every = all_truths(tests)
            self.assertEqual(book.tests(), sorted(tests))
            self.assertEqual(book.deeds(), sorted(deeds))
            self.assertEqual(book.truths(), every)
            for deed in deeds:
                for truths in every:
                    wanted = [other for other in every if is_let(promises, truths, deed, other)]
                    self.assertEqual(book.behind(truths, deed), wanted)
                    for other in every:
                        self.assertIs(book.lets(truths, deed, other), other in wanted)
                    wanted = [other for other in every if is_let(promises, other, deed, truths)]
                    self.assertEqual(book.ahead(deed, truths), wanted)

    def test_truths_in_any_order_and_lists_for_tuples(self):
        book = Book(("b", "a"), ("d",), [[Say.test("a"), "d", Say.test("b")]])
        self.assertEqual(book, Book(["a", "b"], ["d"], ((Say.test("a"), "d", Say.test("b")),)))
        self.assertIs(book.lets(["b", "a"], "d", ("b", "a")), True)
        self.assertIs(book.lets(("b", "a"), "d", ["a"]), False)
        self.assertEqual(book.behind(["b", "a"], "d"), [("a", "b"), ("b",)])
        self.assertEqual(book.ahead("d", ["a"]), [(), ("b",)])

    def test_bad_tests(self):
        for thing in NO_LISTS + [["a", "a"], ["A"], [""], ["a", 1], [None], [["a"]], [True], ["toolongaa"],
                                 ["a", "b", "c", "d", "e"], ("a", "a")]:
            with self.assertRaises(BadTests) as caught:
                Book(thing, ["a", "a"], None)
            self.assertIs(caught.exception.thing, thing)

    def test_bad_deeds(self):
        for thing in NO_LISTS + [[], (), ["a", "a"], ["A"], [""], ["b", 1], [None], [["b"]], ["x"], ["b", "x"],
                                 ["a", "b", "c", "d", "e", "f"], ["toolongaa"]]:
            with self.assertRaises(BadDeeds) as caught:
                Book(["x", "y"], thing, None)
            self.assertIs(caught.exception.thing, thing)

    def test_bad_promises(self):
        good = (Say.yes(), "d", Say.test("a"))
        foreign = Say.test("a") & Say.test("other")
        bad = [None, 1, "abc", (), (Say.yes(), "d"), (Say.yes(), "d", Say.yes(), 1), ("d", Say.yes(), Say.yes()),
               (Say.yes(), "a", Say.yes()), (Say.yes(), "dd", Say.yes()), (Say.yes(), ["d"], Say.yes()),
               (True, "d", Say.yes()), (Say.yes(), "d", None), (foreign, "d", Say.yes()),
               (Say.yes(), "d", foreign), (Say.yes(), None, Say.yes()), {}, Say.yes()]
        book = Book(["a", "b"], ["d", "e"])
        for thing in bad:
            for index in range(3):
                promises = [good] * index + [thing, 7, good]
                for call in (lambda: Book(["a", "b"], ["d", "e"], promises), lambda: book.more(promises)):
                    with self.assertRaises(BadPromise) as caught:
                        call()
                    self.assertEqual(caught.exception.index, index)
            with self.assertRaises(BadPromise) as caught:
                book.follows(thing)
            self.assertEqual(caught.exception.index, 0)
        for thing in NO_LISTS:
            for call in (lambda: Book(["a"], ["d"], thing), lambda: book.more(thing)):
                with self.assertRaises(BadPromise) as caught:
                    call()
                self.assertEqual(caught.exception.index, 0)

    def test_tests_that_make_no_difference_may_be_any(self):
        other = Say.test("zz")
        promise = (other | ~other, "d", Say.test("a") & (other | ~other))
        self.assertEqual(Book(["a"], ["d"], [promise]), Book(["a"], ["d"], [(Say.yes(), "d", Say.test("a"))]))


class Asking(unittest.TestCase):
    def setUp(self):
        self.book = Book(["a", "b"], ["d", "e"])
        self.bad = [None, 1, True, "a", "", ["a", "a"], ["c"], ["d"], [1], [None], {"a": 1}, {}, [["a"]], Say.yes()]
        self.none = [None, 1, True, "", "a", "f", ["d"], ("d",), {}, Say.yes(), self.book]

    def check(self, kind, thing, call):
        with self.assertRaises(kind) as caught:
            call()
        self.assertIs(caught.exception.thing, thing)

    def test_bad_truths_and_no_deed(self):
        book = self.book
        for thing in self.bad:
            self.check(BadTruths, thing, lambda: book.lets(thing, "d", []))
            self.check(BadTruths, thing, lambda: book.lets([], "d", thing))
            self.check(BadTruths, thing, lambda: book.behind(thing, "d"))
            self.check(BadTruths, thing, lambda: book.ahead("d", thing))
        for thing in self.none:
            self.check(NoDeed, thing, lambda: book.lets([], thing, []))
            self.check(NoDeed, thing, lambda: book.behind([], thing))
            self.check(NoDeed, thing, lambda: book.ahead(thing, []))

    def test_the_order_of_errors(self):
        book = self.book
        wrong, other, deed = ["c"], ["d"], "f"
        self.check(BadTruths, wrong, lambda: book.lets(wrong, deed, other))
        self.check(NoDeed, deed, lambda: book.lets([], deed, other))
        self.check(BadTruths, other, lambda: book.lets([], "d", other))
        self.check(BadTruths, wrong, lambda: book.behind(wrong, deed))
        self.check(NoDeed, deed, lambda: book.ahead(deed, wrong))

    def test_more(self):
        for tests, deeds, promises in some_books(2):
            for cut in range(len(promises) + 1):
                self.assertEqual(Book(tests, deeds, promises[:cut]).more(promises[cut:]),
                                 Book(tests, deeds, promises))

    def test_follows(self):
        chance = chances(3)
        for tests, deeds, promises in some_books(3):
            book = Book(tests, deeds, promises)
            every = all_truths(tests)
            for promise in promises + random_promises(chance, tests, deeds, 4) + [(Say.no(), deeds[0], Say.no())]:
                before, deed, behind = promise
                wanted = all(behind.holds(last) for first in every if before.holds(first)
                             for last in every if is_let(promises, first, deed, last))
                self.assertIs(book.follows(promise), wanted)
                self.assertIs(book.follows(list(promise)), wanted)

    def test_by_name(self):
        book = Book(deeds=["d"], promises=[(Say.yes(), "d", Say.test("a"))], tests=["a"])
        self.assertIs(book.lets(behind=["a"], deed="d", ahead=[]), True)
        self.assertEqual(book.behind(deed="d", ahead=[]), [("a",)])
        self.assertEqual(book.ahead(behind=[], deed="d"), [])
        self.assertEqual(book.more(promises=[]), book)
        self.assertIs(book.follows(promise=(Say.yes(), "d", Say.test("a"))), True)


def promises_by_looking(book):
    """What promises() has to return, from behind() alone."""
    tests = book.tests()
    every = book.truths()
    found = []
    for deed in book.deeds():
        kinds = []
        for truths in every:
            behind = book.behind(truths, deed)
            if behind != every and behind not in kinds:
                kinds.append(behind)
        for kind in kinds:
            alike = [truths for truths in every if book.behind(truths, deed) == kind]
            found.append((say_of(tests, alike), deed, say_of(tests, kind)))
    return found


class Promises(unittest.TestCase):
    def test_against_looking(self):
        for tests, deeds, promises in some_books(4):
            book = Book(tests, deeds, promises)
            told = book.promises()
            self.assertEqual(told, promises_by_looking(book))
            self.assertIsInstance(told, list)
            self.assertTrue(all(isinstance(promise, tuple) for promise in told))
            self.assertEqual(Book(tests, deeds, told), book)
            self.assertTrue(all(book.follows(promise) for promise in told))

    def test_random_steps(self):
        chance = chances(5)
        for density in (0.0, 0.2, 0.9):
            plain = random_book(chance, ["a", "b", "c"], ["d", "e"], density)
            book = book_of(plain)
            self.assertEqual(book.promises(), promises_by_looking(book))
            self.assertEqual(Book(["c", "b", "a"], ["e", "d"], book.promises()), book)

    def test_examples(self):
        a, b = Say.test("a"), Say.test("b")
        self.assertEqual(Book(["a"], ["d", "e"]).promises(), [])
        self.assertEqual(Book([], ["d"], [(Say.yes(), "d", Say.no())]).promises(), [(Say.yes(), "d", Say.no())])
        book = Book(["a", "b"], ["e", "d"], [(a, "e", a), (b, "e", a), (Say.yes(), "d", b)])
        self.assertEqual(book.promises(), [(Say.yes(), "d", b), (a | b, "e", a)])


class Comparing(unittest.TestCase):
    def test_told_otherwise_but_equal(self):
        a, b = Say.test("a"), Say.test("b")
        one = Book(["a", "b"], ["d", "e"], [(a | b, "d", a & b), (a, "d", a)])
        two = Book(["b", "a"], ["e", "d"], [(a & ~b, "d", b), (b, "d", a), (b, "d", b), (a, "d", a),
                                            (Say.yes(), "e", Say.yes())])
        self.assertIs(one == two, True)
        self.assertIs(one != two, False)
        self.assertIs(one <= two and two <= one, True)
        self.assertIs(one < two, False)

    def test_unequal(self):
        book = Book(["a"], ["d"])
        for other in (Book(["b"], ["d"]), Book(["a"], ["e"]), Book(["a", "b"], ["d"]), Book(["a"], ["d", "e"]),
                      Book(["a"], ["d"], [(Say.test("a"), "d", Say.no())])):
            self.assertIs(book == other, False)
            self.assertIs(book != other, True)
        for thing in [None, 0, 1, True, "a", [], (), {}, Say.yes(), (["a"], ["d"]), Flow.skip(book)]:
            self.assertIs(book == thing, False)
            self.assertIs(thing == book, False)

    def test_operators_step_by_step(self):
        chance = chances(6)
        for tests, deeds in SHAPES:
            names, every = TESTS[:tests], all_truths(TESTS[:tests])
            plain = [random_book(chance, names, DEEDS[:deeds], density) for density in (0.3, 0.6)]
            lower = names, DEEDS[:deeds], {key: plain[0][2][key] & plain[1][2][key] for key in plain[0][2]}
            upper = names, DEEDS[:deeds], {key: plain[0][2][key] | plain[1][2][key] for key in plain[0][2]}
            one, two = (book_of(book) for book in plain)
            self.assertEqual(one & two, book_of(lower))
            self.assertEqual(one | two, book_of(upper))
            self.assertEqual(one.turned(), book_of(turned_book(plain[0])))
            self.assertEqual(one.turned().turned(), one)
            for first in (plain[0], plain[1], lower, upper, free_book(names, DEEDS[:deeds])):
                for second in (plain[0], plain[1], lower, upper):
                    below = all(first[2][key] <= second[2][key] for key in first[2])
                    self.assertIs(book_of(first) <= book_of(second), below)
                    self.assertIs(book_of(first) < book_of(second), below and first[2] != second[2])
                    self.assertIs(book_of(second) >= book_of(first), below)
            for deed in DEEDS[:deeds]:
                for truths in every:
                    self.assertEqual(one.turned().behind(truths, deed), one.ahead(deed, truths))

    def test_unlike_books(self):
        book = Book(["a"], ["d"])
        for other in (Book(["b"], ["d"]), Book([], ["d"]), Book(["a"], ["e"]), Book(["a"], ["d", "e"])):
            for call in (lambda: book & other, lambda: book | other, lambda: book <= other, lambda: book < other,
                         lambda: other <= book, lambda: other < book):
                self.assertRaises(UnlikeBooks, call)


class Copies(unittest.TestCase):
    def test_what_is_returned_is_new(self):
        book = Book(["a"], ["d"], [(Say.test("a"), "d", Say.test("a"))])
        same = Book(["a"], ["d"], [(Say.test("a"), "d", Say.test("a"))])
        for returned in (book.tests(), book.deeds(), book.truths(), book.promises(), book.behind([], "d"),
                         book.ahead("d", ["a"])):
            returned.clear()
        self.assertEqual(book, same)
        self.assertEqual((book.tests(), book.deeds(), book.truths()), (["a"], ["d"], [(), ("a",)]))
        self.assertEqual(len(book.promises()), 1)

    def test_what_is_passed_is_copied_and_not_changed(self):
        tests, deeds, promise = ["b", "a"], ["e", "d"], [Say.test("a"), "d", Say.test("b")]
        promises = [promise]
        book = Book(tests, deeds, promises)
        book.more(promises)
        self.assertEqual((tests, deeds, promises), (["b", "a"], ["e", "d"], [[Say.test("a"), "d", Say.test("b")]]))
        same = Book(["a", "b"], ["d", "e"], [(Say.test("a"), "d", Say.test("b"))])
        tests.append("c")
        deeds.clear()
        promise[1] = "e"
        promises.clear()
        self.assertEqual(book, same)
        self.assertEqual(book.tests(), ["a", "b"])

    def test_operators_change_nothing(self):
        book = Book(["a"], ["d"], [(Say.test("a"), "d", Say.no())])
        same = book
        book |= Book(["a"], ["d"])
        self.assertEqual(book, Book(["a"], ["d"]))
        book &= Book(["a"], ["d"], [(Say.yes(), "d", Say.no())])
        self.assertEqual(book, Book(["a"], ["d"], [(Say.yes(), "d", Say.no())]))
        self.assertEqual(same, Book(["a"], ["d"], [(exactly(["a"], ["a"]), "d", Say.no())]))


if __name__ == "__main__":
    unittest.main()
