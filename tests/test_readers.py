"""[20], [21]: readers, against an independent way of going through all tuples of truths and deeds by turns."""

import itertools
import unittest

from deedmeanings.books import Book
from deedmeanings.errors import BadTruths, NoDeed, NoPlace
from deedmeanings.flows import Flow, whilst
from deedmeanings.readers import Reader, reader_of
from deedmeanings.says import Say

from tests.plain import all_truths, every_row, flow_of, free_book, random_book, random_tree, rows_of, book_of, chances
from tests.things import flow_cases, odd_things

A = Say.test("a")


def letters(plain):
    """All pairs (truths, deed), ascending."""
    return sorted((truths, deed) for truths in all_truths(plain[0]) for deed in plain[1])


def moves(reader, plain):
    """For each place the dict from the pairs by which it goes on to places."""
    told = [{pair: reader.step(place, *pair) for pair in letters(plain)} for place in range(len(reader))]
    return [{pair: place for pair, place in row.items() if place is not None} for row in told]


def classes(reader, plain):
    """For each place a number: two have the same if the same can be read on from them."""
    table = moves(reader, plain)
    found = [tuple(reader.ends(place)) for place in range(len(reader))]
    for _ in table:
        found = [(found[place], tuple((pair, found[row[pair]]) for pair in sorted(row)))
                 for place, row in enumerate(table)]
        names = sorted(set(map(repr, found)))
        found = [names.index(repr(one)) for one in found]
    return found


class Least(unittest.TestCase):
    def check(self, plain, flow, wanted=None):
        reader = reader_of(flow)
        table = moves(reader, plain)
        # No two places read on alike, from each but 0 some row is read to its end, by each pair, too.
        self.assertEqual(len(set(classes(reader, plain))), len(reader))
        live = {place for place in range(len(reader)) if reader.ends(place)}
        for _ in table:
            live |= {place for place, row in enumerate(table) if set(row.values()) & live}
        self.assertTrue(live >= set(range(1, len(reader))))
        self.assertTrue(all(place in live for row in table for place in row.values()))
        if not flow:
            self.assertEqual((len(reader), table, reader.ends(0)), (1, [{}], []))
        # Each place is come to by its way, and the first ones of all ways come in this order.
        come, queue = {0: ()}, [0]
        for place in queue:
            for pair in letters(plain):
                if pair in table[place] and table[place][pair] not in come:
                    come[table[place][pair]] = come[place] + pair
                    queue.append(table[place][pair])
        self.assertEqual(queue, list(range(len(reader))))
        self.assertEqual([reader.way(place) for place in range(len(reader))], [come[place] for place in queue])
        self.assertEqual(queue, sorted(queue, key=lambda place: (len(come[place]), come[place])))
        self.assertEqual(reader.book, flow.book)
        self.assertEqual(reader.flow(), flow)
        return reader

    def test_just_the_rows_are_read(self):
        for _, plain, _, [(tree, flow)] in flow_cases(51, 120, 1):
            reader = self.check(plain, flow)
            limit = 3 if len(plain[0]) < 2 else 2
            rows = rows_of(tree, plain, limit)
            free = free_book(plain[0], plain[1])
            for length in range(limit + 1):
                for row in every_row(free, length):
                    self.assertIs(reader.reads(row), row in rows, (plain, tree, row))
                    self.assertIs(row in flow, row in rows)

    def test_as_few_places_as_there_are_rests(self):
        # Of a flow with few rows each place is what may stand behind some tuple, () with it.
        for _, plain, _, [(tree, flow)] in flow_cases(52, 120, 1, 3, others=("either",)):
            rows = rows_of(tree, plain, 3)
            rests = {frozenset(rows)}
            for way in sorted({row[:2 * many] for row in rows for many in range(len(row) // 2 + 1)}):
                rests.add(frozenset(row[len(way):] for row in rows if row[:len(way)] == way))
            reader = self.check(plain, flow)
            self.assertEqual(len(reader), len(rests), (plain, tree))
            pairs = {(rest, row[:2]) for rest in rests for row in rest if len(row) > 1}
            self.assertEqual(sum(map(len, moves(reader, plain))), len(pairs))

    def test_larger_flows(self):
        for seed in range(12):
            chance = chances(seed)
            plain = random_book(chance, ("x", "y", "z"), ("d", "e"), 0.5)
            tree = random_tree(chance, plain, 5, (">>", ">>", "|", "|", "-"), ("often", "begun", "either"))
            self.check(plain, flow_of(tree, plain, book_of(plain)))

    def test_the_ways_that_the_book_lets_tell_places_apart(self):
        book = Book(["a"], ["d", "e"], [(A, "d", A), (A, "e", ~A)])
        reader = reader_of(Flow.full(book))
        self.assertEqual([reader.way(place) for place in range(len(reader))], [(), (("a",), "d"), (("a",), "e")])
        self.assertEqual([reader.ends(place) for place in range(3)], [[(), ("a",)], [("a",)], [()]])
        self.assertEqual(reader.step(0, (), "d"), 0)
        self.assertIsNone(reader.step(1, [], "d"))
        self.assertEqual(reader.step(1, ["a"], "e"), 2)


class Asking(unittest.TestCase):
    def setUp(self):
        self.book = Book(["a", "b"], ["d", "e"], [(A, "d", A)])
        self.flow = whilst(A, Flow.deed(self.book, "d")) >> Flow.deed(self.book, "e")
        self.reader = reader_of(self.flow)

    def test_kinds(self):
        self.assertIsInstance(self.reader, Reader)
        self.assertIsInstance(reader_of(flow=self.flow), Reader)
        self.assertIsInstance(self.reader.ends(place=0), list)
        self.assertIsInstance(self.reader.way(place=0), tuple)
        self.assertEqual(self.reader.step(deed="e", truths=["b"], place=0), self.reader.step(0, ("b",), "e"))
        self.assertIs(self.reader.reads(row=((), "e", ())), True)

    def test_ends_are_new(self):
        reader = reader_of(Flow.skip(self.book))
        reader.ends(0).clear()
        self.assertEqual(reader.ends(0), [(), ("a",), ("a", "b"), ("b",)])

    def test_reads_of_any_object(self):
        self.assertIs(self.reader.reads([["b"], "e", ["b", "a"]]), True)
        self.assertIs(self.reader.reads([("b",), "e", ("b", "a", "a")]), False)
        self.assertIs(self.reader.reads([("b",), "e", ("b", "c")]), False)
        self.assertIs(reader_of(Flow.full(self.book)).reads((("a",), "d", ())), False)
        self.assertIs(reader_of(Flow.full(self.book)).reads((("a",), "d", ["b", "a"])), True)
        for thing in odd_things() + [(), [], ((), "e"), ((), "e", (), "e"), ((), "a", ()), ("e",), ((), None, ())]:
            if thing not in ([()],):
                self.assertIs(self.reader.reads(thing), False, thing)
                self.assertIs(thing in self.flow, False, thing)

    def test_tests_in_any_order(self):
        full = reader_of(Flow.full(self.book))
        for truths in itertools.permutations(["a", "b"]):
            self.assertEqual(full.step(0, truths, "e"), full.step(0, ("a", "b"), "e"))
            self.assertIs(full.reads((truths, "e", list(truths))), True)

    def test_errors_in_order(self):
        def raised(error, call, thing):
            with self.assertRaises(error) as caught:
                call()
            self.assertIs(caught.exception.thing, thing)
        many = len(self.reader)
        for thing in [None, True, False, -1, many, many + 1, "0", [0], (), {}, self.book, self.flow]:
            raised(NoPlace, lambda: self.reader.step(thing, None, None), thing)
            raised(NoPlace, lambda: self.reader.ends(thing), thing)
            raised(NoPlace, lambda: self.reader.way(thing), thing)
        for thing in [None, 0, "a", "", ["c"], ("a", "a"), {"a": 1}, ["a", 1], self.book]:
            raised(BadTruths, lambda: self.reader.step(0, thing, None), thing)
        for thing in [None, 0, "", "a", "f", ["d"], ("d",), {}, self.flow]:
            raised(NoDeed, lambda: self.reader.step(0, ("a",), thing), thing)
        self.assertEqual(self.reader.way(many - 1), reader_of(self.flow).way(many - 1))

    def test_equal(self):
        other = Flow.check(self.book, ~A) >> Flow.deed(self.book, "e")
        self.assertEqual(self.reader, reader_of(other))
        self.assertIs(self.reader != reader_of(other), False)
        self.assertIs(self.reader == reader_of(other >> other), False)
        self.assertIs(reader_of(Flow.stop(self.book)) == reader_of(Flow.stop(Book(["a", "b"], ["d", "e"]))), False)
        for thing in odd_things() + [self.flow]:
            self.assertIs(self.reader == thing, False)
            self.assertIs(self.reader != thing, True)

    def test_small_readers(self):
        stop, skip = reader_of(Flow.stop(self.book)), reader_of(Flow.skip(self.book))
        self.assertEqual([len(stop), len(skip)], [1, 1])
        self.assertEqual([stop.ends(0), stop.way(0), stop.step(0, (), "d")], [[], (), None])
        self.assertEqual([skip.step(0, (), "d"), skip.way(0)], [None, ()])
        self.assertIs(bool(len(stop)), True)


if __name__ == "__main__":
    unittest.main()
