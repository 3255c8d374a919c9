"""[50] to [52]: prices and purses, against sums over rows and against ways between truths found one by one."""

import unittest

from deedmeanings.books import Book
from deedmeanings.errors import BadCosts, BadPurse, BadRow, UnlikeBooks
from deedmeanings.flows import Flow
from deedmeanings.prices import Prices
from deedmeanings.readers import reader_of
from deedmeanings.says import Say

from tests.plain import all_truths, book_of, chances, flow_of, rows_of, say_of
from tests.test_plans import narrow_book
from tests.things import flow_cases, odd_things

RANGES = [(-3, 3), (0, 3), (-3, 0), (-1, 1), (-50, 50), (1, 2), (-2, -1), (0, 0)]


def order(row):
    return len(row), row


def random_costs(chance, plain):
    low, high = chance.choice(RANGES)
    every = all_truths(plain[0])
    return {deed: [(say_of(plain[0], [truths for truths in every if chance.random() < 0.6]), chance.randint(low, high))
                   for _ in range(chance.randrange(4))] for deed in plain[1]}


def step_price(costs, ahead, deed):
    return sum(number for say, number in costs[deed] if say.holds(ahead))


def price(costs, row):
    return sum(step_price(costs, row[at - 1], row[at]) for at in range(1, len(row), 2))


def purse_needed(costs, row):
    return max(0, *(price(costs, row[:end]) for end in range(1, len(row) + 1, 2)))


def is_paid(costs, row, purse, cap):
    amount = min(purse, cap)
    for at in range(1, len(row), 2):
        amount -= step_price(costs, row[at - 1], row[at])
        if amount < 0:
            return False
        amount = min(amount, cap)
    return True


class Ways:
    """The points (place of the reader, truths) of a flow that some row passes, and the steps between them."""

    def __init__(self, plain, flow):
        reader = reader_of(flow)
        lets = plain[2]
        every = [(place, truths) for place in range(len(reader)) for truths in all_truths(plain[0])]
        self.ends = {point for point in every if point[1] in reader.ends(point[0])}
        steps = [(point, deed, (reader.step(*point, deed), last)) for point in every for deed in plain[1]
                 if reader.step(*point, deed) is not None for last in lets[point[1], deed]]
        self.starts = {(0, truths) for truths in all_truths(plain[0])}
        come = grown(self.starts, [(one, other) for one, _, other in steps])
        live = grown(self.ends, [(other, one) for one, _, other in steps])
        self.points = come & live
        self.steps = [step for step in steps if step[0] in self.points and step[2] in self.points]
        self.ends &= self.points
        self.starts &= self.points

    def between(self, costs, sign):
        """The least prices of ways between any two points, None if some ring earns: by putting in points by turns."""
        least = {}
        for one, deed, other in self.steps:
            cost = sign * step_price(costs, one[1], deed)
            least[one, other] = min(cost, least.get((one, other), cost))
        for middle in self.points:
            for one in self.points:
                for other in self.points:
                    if (one, middle) in least and (middle, other) in least:
                        cost = least[one, middle] + least[middle, other]
                        least[one, other] = min(cost, least.get((one, other), cost))
        return None if any(least.get((point, point), 0) < 0 for point in self.points) else least

    def best(self, costs, sign, ends):
        """The least price of a way from the start to an end; None if there is none, or no least one."""
        least = self.between(costs, sign)
        if least is None:
            return None
        found = [0 for point in self.starts if point in ends]
        found += [cost for (one, other), cost in least.items() if one in self.starts and other in ends]
        return min(found, default=None)

    def some_purse(self, costs, most):
        """The least purse up to one from which some row is paid: by walking with each amount up to enough."""
        enough = most + sum(abs(step_price(costs, one[1], deed)) for one, deed, _ in self.steps)
        for purse in range(most + 1):
            seen = {(point, purse) for point in self.starts}
            queue = list(seen)
            while queue:
                point, amount = queue.pop()
                if point in self.ends:
                    return purse
                for one, deed, other in self.steps:
                    left = min(enough, amount - step_price(costs, one[1], deed))
                    if one == point and left >= 0 and (other, left) not in seen:
                        seen.add((other, left))
                        queue.append((other, left))
        return None


def grown(start, pairs):
    found = set(start)
    fresh = True
    while fresh:
        fresh = {other for one, other in pairs if one in found} - found
        found |= fresh
    return found


class Sums(unittest.TestCase):
    def test_flows_without_loops(self):
        """All that is told of flows without loops is told by all their rows."""
        for chance, plain, book, [(tree, p)] in flow_cases(271, 150, 1, 3, others=("either",)):
            costs = random_costs(chance, plain)
            prices = Prices(book, costs)
            rows = rows_of(tree, plain, 4)
            self.assertEqual(prices.book, book)
            for row in sorted(rows)[:30]:
                self.assertEqual(prices.of(row), price(costs, row))
            told = [prices.least(p), prices.greatest(p), prices.cheapest(p), prices.dearest(p), prices.some_purse(p),
                    prices.every_purse(p)]
            if not rows:
                self.assertEqual(told, [None] * 5 + [0])
                continue
            least, greatest = (pick(price(costs, row) for row in rows) for pick in (min, max))
            firsts = [min((row for row in rows if price(costs, row) == wanted), key=order)
                      for wanted in (least, greatest)]
            needs = [purse_needed(costs, row) for row in rows]
            self.assertEqual(told, [least, greatest, *firsts, min(needs), max(needs)])

    def test_flows_with_loops(self):
        lacking, found = 0, 0
        for chance, plain, book, [(tree, p)] in flow_cases(272, 120, 1, 3):
            p = p.often() if chance.random() < 0.5 else p
            costs = random_costs(chance, plain)
            prices = Prices(book, costs)
            ways = Ways(plain, p)
            if len(ways.points) > 14:
                continue
            least, greatest = ways.best(costs, 1, ways.ends), ways.best(costs, -1, ways.ends)
            greatest = None if greatest is None else -greatest
            self.assertEqual((prices.least(p), prices.greatest(p)), (least, greatest))
            # Each beginning of a row has to be paid, too.
            every = ways.best(costs, -1, ways.points)
            wanted = 0 if not p else None if ways.between(costs, -1) is None else -every
            self.assertEqual(prices.every_purse(p), wanted)
            for row, best in ((prices.cheapest(p), least), (prices.dearest(p), greatest)):
                self.assertIs(row is None, best is None)
                if row is not None:
                    self.assertTrue(row in p)
                    self.assertEqual(price(costs, row), best)
                    shorter = [other for length in range(min(3, len(row) // 2 + 1)) for other in p.rows(length)
                               if price(costs, other) == best and order(other) < order(row)]
                    self.assertEqual(shorter, [])
            lacking += p.is_endless() and None in (least, greatest)
            found += p.is_endless() and None not in (least, greatest)
        self.assertGreater(lacking, 15)
        self.assertGreater(found, 3)

    def test_purses_with_loops_in_narrow_books(self):
        """Of flows in which something has to be paid ahead of loops and behind them."""
        chance = chances(276)
        seen = set()
        for _ in range(100):
            tests, names = chance.choice([(("x",), ("d", "e")), (("x", "y"), ("d", "e")), (("x", "y"), ("d",))])
            plain = narrow_book(chance, tests, names)

            def some():
                return ("check", tuple(truths for truths in all_truths(tests) if chance.random() < 0.6))

            def step():
                return ("deed", chance.choice(names))
            loop = ("often", (">>", some(), ("|", step(), (">>", step(), step()))))
            p = flow_of((">>", step(), (">>", loop, (">>", some(), (">>", step(), step())))), plain, book_of(plain))
            costs = {deed: [(Say.yes(), chance.randint(0, 2))] + [(say_of(tests, some()[1]), chance.randint(-2, 3))
                                                                  for _ in range(2)] for deed in names}
            prices = Prices(p.book, costs)
            ways = Ways(plain, p)
            least = prices.some_purse(p)
            if least is not None and least <= 12 and len(ways.steps) < 80:
                self.assertEqual(least, ways.some_purse(costs, least))
                # What is paid from a purse that holds at most 12 may be less, but never more.
                self.assertTrue(least == 0 or not prices.paid(p, least - 1, 12))
                seen.add(least)
        self.assertGreater(len(seen), 8)

    def test_purses_with_loops(self):
        seen = set()
        for chance, plain, book, [(tree, p)] in flow_cases(273, 150, 1, 3):
            costs = {deed: [(say, max(-2, min(3, number))) for say, number in told]
                     for deed, told in random_costs(chance, plain).items()}
            prices = Prices(book, costs)
            ways = Ways(plain, p)
            if len(ways.steps) > 25:
                continue
            least = prices.some_purse(p)
            self.assertIs(least is None, not p)
            if least is not None and least <= 8:
                self.assertEqual(least, ways.some_purse(costs, least))
            seen.add(least)
        self.assertGreater(len(seen), 4)

    def test_by_hand(self):
        x = Say.test("x")
        book = Book(["x"], ["d", "e"], [(Say.yes(), "d", x), (Say.yes(), "e", ~x)])
        d, e = Flow.deed(book, "d"), Flow.deed(book, "e")
        prices = Prices(costs={"d": [(x, 3), (Say.yes(), 1), (x, -1)], "e": [(~x, -2)]}, book=book)
        self.assertEqual(prices.of(row=(("x",), "d", ["x"], "e", ())), 3)
        self.assertEqual(prices.of([[], "e", [], "e", []]), -4)
        self.assertEqual((prices.least(p=d), prices.greatest(p=d)), (1, 3))
        self.assertEqual((prices.cheapest(p=d), prices.dearest(p=d)), (((), "d", ("x",)), (("x",), "d", ("x",))))
        self.assertEqual((prices.least(d.often()), prices.greatest(d.often())), (0, None))
        self.assertEqual((prices.cheapest(d.often()), prices.dearest(d.often())), (((),), None))
        self.assertEqual((prices.least(e.often()), prices.greatest(e.often())), (None, 0))
        self.assertEqual((prices.cheapest(e.often()), prices.dearest(e.often())), (None, ((),)))
        # With e after d nothing is earned where x holds, and what is earned then may be paid.
        pair = e >> e >> d >> d
        self.assertEqual((prices.least(pair), prices.greatest(pair)), (0, 2))
        self.assertEqual((prices.some_purse(p=pair), prices.every_purse(p=pair)), (0, 2))
        self.assertEqual((prices.some_purse(d >> d >> e), prices.every_purse(d >> d >> e)), (4, 6))
        self.assertEqual(prices.every_purse(d.often()), None)
        self.assertEqual(prices.every_purse(e.often()), 0)
        # The dearest way is a ring that costs nothing: the first row is the shortest.
        ring = (d >> e >> e >> e).often()
        self.assertEqual((prices.least(ring), prices.cheapest(ring), prices.dearest(ring)), (None, None, ((),)))
        even = Prices(book, {"d": [(Say.yes(), 2)], "e": [(x, -2)]})
        self.assertEqual((even.least((d >> e).often()), even.greatest((d >> e).often())), (0, 0))
        self.assertEqual(even.cheapest((d >> e).often()), ((),))
        self.assertEqual(even.dearest((d >> e).often() >> d), ((), "d", ("x",)))
        self.assertEqual(even.every_purse((d >> e).often()), 2)
        self.assertEqual(even.some_purse((d >> e).often() - Flow.skip(book)), 2)

    def test_a_purse_that_is_filled_by_a_ring(self):
        book = Book([], ["d", "e", "f"])
        d, e, f = [Flow.deed(book, name) for name in "def"]
        prices = Prices(book, {"d": [(Say.yes(), -1)], "e": [(Say.yes(), 50)], "f": [(Say.yes(), 7)]})
        self.assertEqual(prices.some_purse(d.often() >> e ** 3), 0)
        self.assertEqual(prices.some_purse(f >> d.often() >> e ** 3), 7)
        self.assertEqual(prices.some_purse((f >> d ** 8).often() >> e), 7)
        self.assertEqual(prices.some_purse((f >> d ** 7).often() >> e), 50)
        self.assertEqual(prices.some_purse((f >> d ** 6).often() >> e), 50)
        self.assertEqual(prices.every_purse(d.often() >> e ** 3), 150)
        self.assertIsNone(prices.every_purse((f >> d ** 6).often()))
        self.assertEqual(prices.every_purse((f >> d ** 7).often()), 7)
        self.assertEqual((prices.least(d.often() >> e), prices.greatest(d.often() >> e)), (None, 50))
        self.assertEqual(prices.dearest(d.often() >> e), ((), "e", ()))
        self.assertIsNone(prices.cheapest(d.often() >> e))


class Paid(unittest.TestCase):
    def test_against_walks_with_the_purse(self):
        fewer = 0
        for chance, plain, book, [(tree, _)] in flow_cases(274, 150, 1, 3):
            if chance.random() < 0.6:
                tree = ("often", ("|", tree, ("deed", chance.choice(plain[1]))))
            p = flow_of(tree, plain, book)
            costs = random_costs(chance, plain)
            prices = Prices(book, costs)
            rows = rows_of(tree, plain, 3)
            for _ in range(2):
                purse, cap = chance.randrange(13), chance.randrange(13)
                flow = prices.paid(p, purse, cap)
                wanted = {row for row in rows if is_paid(costs, row, purse, cap)}
                self.assertEqual(flow.book, book)
                self.assertTrue(flow <= p)
                for length in range(4):
                    self.assertEqual(flow.rows(length), sorted(row for row in wanted if len(row) // 2 == length))
                fewer += bool(wanted) and wanted != rows
        self.assertGreater(fewer, 30)

    def test_facts(self):
        for chance, plain, book, [(_, p)] in flow_cases(275, 80, 1, 3):
            costs = random_costs(chance, plain)
            prices = Prices(book, costs)
            some = prices.some_purse(p)
            for purse in (0, 2, 12):
                for cap in (0, 3, 12):
                    flow = prices.paid(p, purse, cap)
                    if some is None or purse < some:
                        self.assertFalse(flow)
                    if cap >= purse and min([n for told in costs.values() for _, n in told], default=0) >= 0:
                        for length in range(4):
                            self.assertEqual(flow.rows(length), [row for row in p.rows(length)
                                                                 if prices.of(row) <= purse])
            every = prices.every_purse(p)
            if every is not None and every <= 12 and min([n for told in costs.values() for _, n in told], default=0) >= 0:
                self.assertEqual(prices.paid(p, 12, 12), p)

    def test_by_hand(self):
        book = Book([], ["d", "e"])
        d, e = Flow.deed(book, "d"), Flow.deed(book, "e")
        prices = Prices(book, {"d": [(Say.yes(), 4)], "e": [(Say.yes(), -3)]})
        full = Flow.full(book)
        self.assertEqual(prices.paid(p=full, purse=0, cap=3), e.often())
        self.assertEqual(prices.paid(purse=12, cap=3, p=full), e.often())
        # With at most four the purse has to be full for d, and behind it two e are needed.
        e_full = e >> e >> e.often()
        self.assertEqual(prices.paid(full, 4, 4), (e.often() >> d >> e_full).often() >> e.often()
                         >> (Flow.skip(book) | d >> (Flow.skip(book) | e)))
        self.assertEqual(prices.paid(d.often(), 12, 12), Flow.skip(book) | d | d >> d | d ** 3)
        self.assertEqual(prices.paid(d.often(), 11, 12), Flow.skip(book) | d | d >> d)
        self.assertEqual(prices.paid(d, 0, 0), Flow.stop(book))
        self.assertEqual(prices.paid(Flow.skip(book), 0, 0), Flow.skip(book))


class Errors(unittest.TestCase):
    def setUp(self):
        self.book = Book(["x"], ["d", "e"])
        self.costs = {"d": [(Say.test("x"), 2)], "e": []}
        self.prices = Prices(self.book, self.costs)
        self.p = Flow.deed(self.book, "d")

    def check(self, costs, name):
        with self.assertRaises(BadCosts, msg=repr(costs)) as caught:
            Prices(self.book, costs)
        self.assertIs(caught.exception.name, name)

    def test_bad_costs(self):
        for thing in odd_things() + [[("d", [])], "de"]:
            if not isinstance(thing, dict):
                self.check(thing, None)
        x = Say.test("x")
        wrong = [thing for thing in odd_things() if thing not in ([], ()) and not (isinstance(thing, str) and not thing)]
        pairs = [(x, 51), (x, -51), (x, True), (x, "1"), (x, None), (x,), (x, 1, 1), ("x", 1), (Say.test("y"), 1),
                 (Say.test("d"), 1), (None, 1), (1, x), x, (x, [1]), (self.p, 1), {x.tests()[0]: 1}, (x, 10 ** 20)]
        for thing in wrong + [[pair] for pair in pairs] + [[(x, 1), pair] for pair in pairs] + [x, 5, None, "x", {}]:
            self.check({"d": thing, "e": []}, "d")
            self.check({"e": thing, "d": ()}, "e")
            self.check({"e": thing, "d": thing, "a": thing}, "d")
            self.check({"f": 0, "e": thing, "d": []}, "e")
        self.check({}, "d")
        self.check({"d": []}, "e")
        self.check({"e": []}, "d")
        self.check({"f": [], "d": [], "e": []}, "f")
        for key in ("x", "", 0, None, True, (), ("d",), "D"):
            self.check({"d": [], key: [], "e": [], "other": []}, key)
            self.check({"d": [], key: []}, "e")
        good = Prices(self.book, {"e": ((x, 50), [Say.test("y") | ~Say.test("y"), -50]), "d": ()})
        self.assertEqual([good.of((some, "e", ())) for some in ((), ("x",))], [-50, 0])

    def test_bad_rows(self):
        strict = Book(["x"], ["d", "e"], [(Say.yes(), "d", Say.test("x"))])
        prices = Prices(strict, self.costs)
        # A row of length 0 may be told by a list.
        odd = [thing for thing in odd_things() if thing != [()]]
        for thing in odd + [((), "d"), ((), "d", ()), ((), "f", ()), (("y",),), "d", ((), "d", ("x", "x"))]:
            with self.assertRaises(BadRow) as caught:
                prices.of(thing)
            self.assertIs(caught.exception.thing, thing)
        self.assertEqual(prices.of(((),)), 0)

    def test_bad_purses(self):
        for thing in odd_things() + [13, "0", [1], 10 ** 9]:
            for other in (0, 12, None, -1):
                with self.assertRaises(BadPurse) as caught:
                    self.prices.paid(self.p, thing, other)
                self.assertIs(caught.exception.thing, thing)
            with self.assertRaises(BadPurse) as caught:
                self.prices.paid(self.p, 3, thing)
            self.assertIs(caught.exception.thing, thing)

    def test_unlike_books_ahead_of_all_else(self):
        for other in (Book(["x"], ["d", "e"], [(Say.test("x"), "d", Say.no())]), Book(["x"], ["d"]), Book([], ["d", "e"])):
            for flow in (Flow.stop(other), Flow.full(other)):
                for call in ("least", "greatest", "cheapest", "dearest", "some_purse", "every_purse"):
                    self.assertRaises(UnlikeBooks, getattr(self.prices, call), flow)
                self.assertRaises(UnlikeBooks, self.prices.paid, flow, None, 99)
        equal = Flow.deed(Book(("x",), ("e", "d")), "d")
        self.assertEqual(self.prices.least(equal), 0)
        self.assertEqual(self.prices.paid(equal, 1, 1), Flow.check(self.book, ~Say.test("x")) >> self.p)

    def test_costs_that_are_changed_behind(self):
        costs = {"d": [[Say.yes(), 5]], "e": [(Say.yes(), 1)]}
        prices = Prices(self.book, costs)
        costs["d"][0][1] = 7
        costs["d"].append((Say.yes(), 1))
        costs["e"] = None
        del costs["d"]
        self.assertEqual((prices.of(((), "d", ())), prices.of(((), "e", ()))), (5, 1))
        self.assertEqual(prices.greatest(self.p), 5)


if __name__ == "__main__":
    unittest.main()
