"""[13] to [19]: the rows of flows, against an independent way of going through all rows of small books."""

import unittest

from deedmeanings.flows import Flow

from tests.plain import (BINARY, book_of, chances, every_row, flow_of, free_book, random_book, random_tree, rows_of,
                         size)

SMALL = [((), ("d", "e"), 4), ((), ("d",), 5), (("x",), ("d",), 4), (("x",), ("d", "e"), 3), (("x", "y"), ("d",), 3)]
TINY = [((), ("d", "e"), 3), (("x",), ("d",), 3), (("x",), ("d", "e"), 2), (("x", "y"), ("d",), 2)]


def some_cases(seed, many, shapes, make):
    """Triples of a plain book, a tree and a length up to which its rows are gone through."""
    chance = chances(seed)
    for _ in range(many):
        tests, deeds, limit = chance.choice(shapes)
        density = chance.choice([0.4, 0.7, 0.9, 1.0])
        plain = random_book(chance, tests, deeds, density)
        yield plain, make(chance, plain), limit


def in_order(rows):
    return sorted(rows, key=lambda row: (size(row), row))


class RowsTold(unittest.TestCase):
    def check(self, plain, tree, limit):
        flow = flow_of(tree, plain, book_of(plain))
        wanted = in_order(rows_of(tree, plain, limit))
        told = [row for length in range(limit + 1) for row in flow.rows(length)]
        self.assertEqual(told, wanted, (plain, tree))
        for length in range(limit + 1):
            self.assertEqual(flow.count(length), sum(size(row) == length for row in wanted))
        if wanted:
            self.assertEqual(flow.first(), wanted[0])
            self.assertEqual(flow.length(), size(wanted[0]))
            self.assertIs(bool(flow), True)
        elif flow:
            self.assertGreater(flow.length(), limit)
            self.assertIn(flow.first(), flow)
        else:
            self.assertIsNone(flow.first())
            self.assertIsNone(flow.length())
        rows = set(wanted)
        for length in range(min(limit, 3) + 1):
            for row in every_row(plain, length):
                self.assertIs(row in flow, row in rows)

    def test_trees_of_all_kinds(self):
        for case in some_cases(11, 250, SMALL, lambda chance, plain: random_tree(chance, plain, chance.randrange(6))):
            self.check(*case)

    def test_trees_of_sequences_and_choices(self):
        def make(chance, plain):
            return random_tree(chance, plain, 2 + chance.randrange(4), (">>", "|", "|", "&"), ("often",))
        for case in some_cases(12, 150, SMALL, make):
            self.check(*case)

    def test_powers(self):
        for power in range(4):
            def make(chance, plain):
                return "**", random_tree(chance, plain, chance.randrange(3)), power
            for case in some_cases(13 + power, 15, SMALL, make):
                self.check(*case)

    def test_begun(self):
        def make(chance, plain):
            tree = "begun", random_tree(chance, plain, chance.randrange(4), BINARY, ("often", "either"))
            return tree if chance.random() < 0.5 else ("-", random_tree(chance, plain, 2), tree)
        for case in some_cases(17, 120, TINY, make):
            self.check(*case)

    def test_put(self):
        def make(chance, plain):
            whole = random_tree(chance, plain, chance.randrange(4), BINARY, ("often", "either"))
            part = random_tree(chance, plain, chance.randrange(4))
            return "put", whole, chance.choice(plain[1]), part
        for case in some_cases(18, 150, TINY, make):
            self.check(*case)

    def test_put_of_parts_that_may_be_idle(self):
        def make(chance, plain):
            deed = chance.choice(plain[1])
            whole = (">>", random_tree(chance, plain, 1), ("often", ("deed", deed)))
            idle = ("check", tuple(truths for truths in sorted({key[0] for key in plain[2]})
                                   if chance.random() < 0.6))
            return "put", whole, deed, ("|", idle, random_tree(chance, plain, chance.randrange(3)))
        for case in some_cases(19, 100, [((), ("d", "e"), 2), (("x",), ("d",), 3)], make):
            self.check(*case)

    def test_turned(self):
        def make(chance, plain):
            return "back", random_tree(chance, plain, chance.randrange(6))
        for case in some_cases(20, 120, SMALL, make):
            self.check(*case)

    def test_under(self):
        chance = chances(21)
        for plain, tree, limit in some_cases(22, 100, SMALL, lambda one, book: random_tree(one, book, 4)):
            tests, deeds, lets = plain
            stricter = tests, deeds, {key: {truths for truths in sorted(lets[key]) if chance.random() < 0.7}
                                      for key in lets}
            book = book_of(stricter)
            flow = flow_of(tree, plain, book_of(plain)).under(book)
            kept = {row for length in range(limit + 1) for row in every_row(stricter, length)}
            wanted = in_order(rows_of(tree, plain, limit) & kept)
            self.assertEqual(flow.book, book)
            self.assertEqual([row for length in range(limit + 1) for row in flow.rows(length)], wanted)


class Comparing(unittest.TestCase):
    def test_flows_of_one_book(self):
        # Flows of at most two deeds are told apart by rows of the lengths that are gone through.
        for seed, (tests, deeds, limit) in enumerate([((), ("d",), 5), ((), ("d", "e"), 5), (("x",), ("d",), 5)]):
            chance = chances(30 + seed)
            for density in (0.6, 1.0):
                plain = random_book(chance, tests, deeds, density)
                book = book_of(plain)
                trees = [random_tree(chance, plain, chance.randrange(3)) for _ in range(14)]
                flows = [flow_of(tree, plain, book) for tree in trees]
                sets = [rows_of(tree, plain, limit) for tree in trees]
                for one, first, tree in zip(flows, sets, trees):
                    for other, second in zip(flows, sets):
                        self.assertIs(one == other, first == second, (tree, plain))
                        self.assertIs(one != other, first != second)
                        self.assertIs(one <= other, first <= second)
                        self.assertIs(one < other, first < second)
                        self.assertIs(one >= other, first >= second)
                        self.assertIs(one > other, first > second)

    def test_told_otherwise_but_equal(self):
        for plain, tree, _ in some_cases(33, 80, SMALL, lambda one, book: random_tree(one, book, 3)):
            book = book_of(plain)
            flow = flow_of(tree, plain, book)
            full, skip = Flow.full(book), Flow.skip(book)
            for other in (~~flow, flow | flow, flow & full, flow - Flow.stop(book), skip >> flow >> skip,
                          flow.turned().turned(), full - ~flow, flow.under(book), flow ** 1):
                self.assertIs(other == flow, True)
                self.assertIs(other <= flow and flow <= other, True)
                self.assertIs(other < flow, False)


class Choices(unittest.TestCase):
    def test_is_sure(self):
        seen = {True: 0, False: 0}
        for plain, tree, limit in some_cases(34, 600, TINY, lambda one, book: random_tree(
                one, book, one.randrange(3), (">>", ">>", "|"), ("either", "whilst", "often"))):
            flow = flow_of(tree, plain, book_of(plain))
            rows = rows_of(tree, plain, limit + 3)
            ways = {}
            for row in rows:
                for length in range(min(limit, size(row)) + 1):
                    nearer = row[:2 * length + 1]
                    ways.setdefault(nearer, set()).add("" if nearer == row else row[2 * length + 1])
            sure = all(len(some) <= 1 for some in ways.values())
            self.assertIs(flow.is_sure(), sure, (plain, tree))
            seen[sure] += 1
        self.assertGreater(min(seen.values()), 50)

    def test_is_endless(self):
        # Flows this small that have rows of 16 to 40 deeds have rows of infinitely many lengths.
        seen = {True: 0, False: 0}
        for plain, tree, _ in some_cases(35, 450, TINY, lambda one, book: random_tree(one, book, one.randrange(4))):
            flow = flow_of(tree, plain, book_of(plain))
            endless = any(flow.count(length) for length in range(16, 41))
            self.assertIs(flow.is_endless(), endless, (plain, tree))
            seen[endless] += 1
        self.assertGreater(min(seen.values()), 40)

    def test_counts_of_long_rows(self):
        for plain, tree, _ in some_cases(36, 40, SMALL, lambda one, book: ("full",)):
            flow = flow_of(tree, plain, book_of(plain))
            tests, deeds, lets = plain
            ways = {truths: 1 for truths, _ in lets}
            for length in range(61):
                self.assertEqual(flow.count(length), sum(ways.values()))
                ways = {truths: sum(ways[behind] for deed in deeds for behind in lets[truths, deed])
                        for truths in ways}

    def test_counts_of_free_books(self):
        for tests, deeds in [((), ("d",)), (("x",), ("d", "e")), (("x", "y"), ("d", "e", "f"))]:
            book = book_of(free_book(tests, deeds))
            many = 2 ** len(tests)
            for length in (0, 1, 7, 60):
                self.assertEqual(Flow.full(book).count(length), many * (many * len(deeds)) ** length)
                self.assertEqual((~Flow.deed(book, "d")).count(length),
                                 many * (many * len(deeds)) ** length - (many ** 2 if length == 1 else 0))


if __name__ == "__main__":
    unittest.main()
