"""[53] to [55]: chances, against sums over rows and a way that strikes out points of the reader with fractions."""

import unittest
from fractions import Fraction

from deedmeanings.books import Book
from deedmeanings.chances import Chances
from deedmeanings.errors import BadCount, BadRow, BadTruths, BadWeights, NotSure, UnlikeBooks
from deedmeanings.flows import Flow, either, whilst
from deedmeanings.plans import best_plan, sure_from, turns_needed
from deedmeanings.readers import reader_of
from deedmeanings.says import Say

from tests.plain import all_truths, book_of, chances, flow_of, random_book, rows_of, say_of
from tests.test_plans import game_cases, some_say
from tests.things import SHAPES, odd_things


def sure_tree(chance, plain, deeds):
    """A random tree with so many deeds that leaves no choice."""
    some = tuple(truths for truths in all_truths(plain[0]) if chance.random() < 0.6)
    if deeds == 0:
        return chance.choice([("check", some), ("skip",), ("skip",), ("stop",)])
    if deeds == 1 and chance.random() < 0.6:
        return ("deed", chance.choice(plain[1]))
    word = chance.choice([">>", ">>", "either", "whilst", "whilst"])
    if word == "whilst":
        return (word, some, sure_tree(chance, plain, deeds))
    left = chance.randrange(deeds + 1)
    parts = sure_tree(chance, plain, left), sure_tree(chance, plain, deeds - left)
    return (word, some, *parts) if word == "either" else (word, *parts)


def random_weights(chance, plain, full=False):
    every = all_truths(plain[0])

    def some():
        return say_of(plain[0], [truths for truths in every if chance.random() < 0.6])
    weights = {deed: [(some(), some(), chance.choice([1, 2, 3, 7, 100])) for _ in range(chance.randrange(5))]
               for deed in plain[1]}
    if full:
        # So no deed fails.
        weights = {deed: told + [(Say.yes(), Say.yes(), 1)] for deed, told in weights.items()}
    return weights


class Odds:
    """The chances of steps of a plain book, as fractions."""

    def __init__(self, plain, weights):
        self.tests, self.deeds, self.lets = plain
        self.weights = weights

    def weight(self, ahead, deed, behind):
        return sum(number for one, other, number in self.weights[deed] if one.holds(ahead) and other.holds(behind))

    def step(self, ahead, deed, behind):
        total = sum(self.weight(ahead, deed, last) for last in self.lets[ahead, deed])
        return Fraction(self.weight(ahead, deed, behind), total) if total else Fraction(0)

    def row(self, row):
        found = Fraction(1)
        for at in range(1, len(row), 2):
            found *= self.step(*row[at - 1:at + 2])
        return found


class Walk:
    """Who goes by a flow that leaves no choice: the steps between the points of its reader, and their chances."""

    def __init__(self, odds, flow):
        reader = reader_of(flow)
        self.points = [(place, truths) for place in range(len(reader)) for truths in all_truths(odds.tests)]
        self.ends = {point for point in self.points if point[1] in reader.ends(point[0])}
        self.steps = {}
        for place, truths in self.points:
            for deed in odds.deeds:
                target = reader.step(place, truths, deed)
                for last in odds.lets[truths, deed] if target is not None else ():
                    if odds.step(truths, deed, last):
                        self.steps[(place, truths), (target, last)] = odds.step(truths, deed, last)

    def ending(self):
        """The points from which an end may be come to."""
        found = set(self.ends)
        fresh = True
        while fresh:
            fresh = {one for one, other in self.steps if other in found} - found
            found |= fresh
        return found

    def struck_out(self, first):
        """The chance of each end, and the mean number of deeds, told by striking out all points but the first one."""
        left = [point for point in self.points if point in self.ending()]
        steps = {pair: share for pair, share in self.steps.items() if pair[0] in left and pair[1] in left}
        deeds = {point: Fraction(0 if point in self.ends else 1) for point in left}
        for middle in left:
            if middle == (0, first) or middle in self.ends:
                continue
            again = 1 / (1 - steps.pop((middle, middle), Fraction(0)))
            ahead = [(one, share) for (one, other), share in steps.items() if other == middle]
            behind = [(other, share) for (one, other), share in steps.items() if one == middle]
            for one, share in ahead:
                deeds[one] += share * again * deeds[middle]
                for other, more in behind:
                    steps[one, other] = steps.get((one, other), 0) + share * again * more
            steps = {pair: share for pair, share in steps.items() if middle not in pair}
        start = (0, first)
        if start not in left:
            return {}, None
        again = 1 / (1 - steps.get((start, start), Fraction(0)))
        found = {first: Fraction(1)} if start in self.ends else {}
        for (one, other), share in steps.items():
            if one == start and other != start:
                found[other[1]] = found.get(other[1], 0) + share * again
        return found, deeds[start] * again if sum(found.values()) == 1 else None

    def early(self, first, most):
        """For each number of deeds up to one the chance that the end is come to with so many, or fewer."""
        shares = {(0, first): Fraction(1)}
        ended, found = Fraction(0), []
        for _ in range(most + 1):
            ended += sum(share for point, share in shares.items() if point in self.ends)
            found.append(ended)
            behind = {}
            for (one, other), share in self.steps.items():
                if one in shares and one not in self.ends:
                    behind[other] = behind.get(other, 0) + shares[one] * share
            shares = behind
        return found


def told(share):
    return (share.numerator, share.denominator)


def sure_cases(seed, many, deeds=4, full=None):
    chance = chances(seed)
    for _ in range(many):
        tests, names = chance.choice(SHAPES)
        plain = random_book(chance, tests, names, chance.choice([0.4, 0.7, 0.9, 1.0]))
        book = book_of(plain)
        weights = random_weights(chance, plain, chance.random() < 0.5 if full is None else full)
        tree = sure_tree(chance, plain, chance.randrange(deeds + 1))
        yield chance, plain, book, weights, tree, flow_of(tree, plain, book)


class Told(unittest.TestCase):
    def test_rows(self):
        seen = set()
        for chance, plain, book, weights, tree, flow in sure_cases(281, 100):
            shares, odds = Chances(book, weights), Odds(plain, weights)
            self.assertEqual(shares.book, book)
            for row in sorted(rows_of(("full",), plain, 2))[:60] + sorted(rows_of(tree, plain, 4))[:20]:
                self.assertEqual(shares.of(row), told(odds.row(row)))
                seen.add(shares.of(list(row)))
        self.assertGreater(len(seen), 60)
        self.assertIn((0, 1), seen)

    def test_flows_without_loops_by_their_rows(self):
        chance = chances(282)
        for _ in range(80):
            plain = random_book(chance, *chance.choice(SHAPES), chance.choice([0.4, 0.8, 1.0]))
            book = book_of(plain)
            weights = random_weights(chance, plain)
            tree = sure_tree(chance, plain, 3)
            if "whilst" in str(tree):
                continue
            flow, rows, odds = flow_of(tree, plain, book), rows_of(tree, plain, 4), Odds(plain, weights)
            shares = Chances(book, weights)
            for first in all_truths(plain[0]):
                own = [row for row in rows if row[0] == first]
                total = sum(odds.row(row) for row in own)
                self.assertEqual(shares.ends(flow, first), told(Fraction(total)))
                for last in all_truths(plain[0]):
                    wanted = sum(odds.row(row) for row in own if row[-1] == last)
                    self.assertEqual(shares.end(flow, first, last), told(Fraction(wanted)))
                for most in range(5):
                    wanted = sum(odds.row(row) for row in own if len(row) // 2 <= most)
                    self.assertEqual(shares.early(flow, first, most), told(Fraction(wanted)))
                mean = sum(odds.row(row) * (len(row) // 2) for row in own)
                self.assertEqual(shares.mean(flow, first), told(Fraction(mean)) if total == 1 else None)

    def test_all_flows_by_striking_out(self):
        loops, never, sure = 0, 0, 0
        for _, plain, book, weights, _, flow in sure_cases(283, 220):
            shares, odds = Chances(book, weights), Odds(plain, weights)
            walk = Walk(odds, flow)
            for first in all_truths(plain[0]):
                ends, mean = walk.struck_out(first)
                total = sum(ends.values(), Fraction(0))
                self.assertEqual(shares.ends(flow, first), told(total))
                for last in all_truths(plain[0]):
                    self.assertEqual(shares.end(flow, first, last), told(ends.get(last, Fraction(0))))
                self.assertEqual(shares.mean(flow, first), None if mean is None else told(mean))
                early = walk.early(first, 12)
                for most in (0, 1, 2, 5, 12):
                    self.assertEqual(shares.early(flow, first, most), told(early[most]))
                loops += flow.is_endless()
                never += flow.is_endless() and 0 < total < 1
                sure += flow.is_endless() and total == 1 and mean != 0
        self.assertGreater(loops, 30)
        self.assertGreater(never, 4)
        self.assertGreater(sure, 10)

    def test_by_hand(self):
        x = Say.test("x")
        book = Book(["x"], ["d", "e"])
        d, e, yes = Flow.deed(book, "d"), Flow.deed(book, "e"), Say.yes()
        shares = Chances(weights={"d": [(yes, x, 1), (~x, ~x, 2)], "e": [(x, x, 5), (x, yes, 5)]}, book=book)
        self.assertEqual(shares.of(row=((), "d", ("x",))), (1, 3))
        self.assertEqual(shares.of((("x",), "d", ())), (0, 1))
        self.assertEqual(shares.of(((), "e", ())), (0, 1))
        self.assertEqual(shares.of((["x"], "e", ["x"], "e", [])), (2, 9))
        self.assertEqual(shares.of(((),)), (1, 1))
        loop = whilst(~x, d)
        self.assertEqual(shares.end(p=loop, first=(), last=("x",)), (1, 1))
        self.assertEqual(shares.end(loop, (), ()), (0, 1))
        self.assertEqual(shares.ends(p=loop, first=()), (1, 1))
        self.assertEqual(shares.mean(p=loop, first=()), (3, 1))
        self.assertEqual(shares.mean(loop, ("x",)), (0, 1))
        for most in range(41):
            self.assertEqual(shares.early(p=loop, first=(), most=most), told(1 - Fraction(2, 3) ** most))
        # The deed e fails where x does not hold.
        twice = e >> e
        self.assertEqual(shares.ends(twice, ("x",)), (2, 3))
        self.assertEqual(shares.ends(twice, ()), (0, 1))
        self.assertIsNone(shares.mean(twice, ("x",)))
        # For ever d is done where x holds: that never ends.
        ever = whilst(x, d)
        self.assertEqual((shares.ends(ever, ("x",)), shares.ends(ever, ())), ((0, 1), (1, 1)))
        self.assertIsNone(shares.mean(ever, ("x",)))
        self.assertEqual(shares.early(ever, ("x",), 40), (0, 1))
        self.assertEqual(shares.end(Flow.stop(book), (), ()), (0, 1))
        self.assertEqual(shares.end(Flow.skip(book), (), ()), (1, 1))
        self.assertEqual(shares.early(Flow.skip(book), (), 0), (1, 1))
        self.assertEqual(shares.early(d, (), 0), (0, 1))
        self.assertEqual(shares.mean(d >> d >> d, ()), (3, 1))
        # What comes may be none with which the flow goes on: then it does not end.
        self.assertEqual(shares.ends(d >> Flow.check(book, x), ()), (1, 3))

    def test_weights_of_steps_that_are_not_let_do_not_count(self):
        x, yes = Say.test("x"), Say.yes()
        book = Book(["x"], ["d"], [(x, "d", x)])
        shares = Chances(book, {"d": [(yes, yes, 3), (yes, x, 2)]})
        self.assertEqual(shares.of((("x",), "d", ("x",))), (1, 1))
        self.assertEqual(shares.of(((), "d", ("x",))), (5, 8))
        strict = Book(["x"], ["d"], [(yes, "d", Say.no())])
        self.assertEqual(Chances(strict, {"d": [(yes, yes, 1)]}).ends(Flow.deed(strict, "d"), ()), (0, 1))

    def test_the_largest_book(self):
        names = ("a", "b", "c", "x")
        chance = chances(284)
        plain = random_book(chance, names, ("d", "e", "f", "g", "h"), 0.8)
        book = book_of(plain)
        shares = Chances(book, random_weights(chance, plain, True))
        flow = flow_of(sure_tree(chance, plain, 5), plain, book)
        for deed in plain[1]:
            flow = whilst(some_say(chance, names), either(some_say(chance, names), flow, Flow.skip(book))
                          >> Flow.deed(book, deed))
        total = sum((Fraction(*shares.end(flow, ("a",), last)) for last in all_truths(names)), Fraction(0))
        self.assertEqual(told(total), shares.ends(flow, ("a",)))
        self.assertLessEqual(Fraction(*shares.early(flow, ("a",), 40)), total)
        self.assertIs(shares.mean(flow, ("a",)) is None, total != 1)


class Facts(unittest.TestCase):
    def test_what_is_put_together(self):
        for chance, plain, book, weights, _, p in sure_cases(285, 60, 3):
            q = flow_of(sure_tree(chance, plain, 2), plain, book)
            say = some_say(chance, plain[0])
            for flow in (p >> q, either(say, p, q), whilst(say, p)):
                self.assertIs(flow.is_sure(), True)
            shares = Chances(book, weights)
            every = all_truths(plain[0])
            for first in every:
                for last in every:
                    parts = [Fraction(*shares.end(p, first, middle)) * Fraction(*shares.end(q, middle, last))
                             for middle in every]
                    self.assertEqual(shares.end(p >> q, first, last), told(sum(parts, Fraction(0))))

    def test_early_never_falls_and_comes_near(self):
        near = 0
        for _, plain, book, weights, _, flow in sure_cases(286, 60, 3):
            shares = Chances(book, weights)
            for first in all_truths(plain[0]):
                rising = [Fraction(*shares.early(flow, first, most)) for most in (0, 1, 2, 3, 8, 20, 40, 300)]
                self.assertEqual(rising, sorted(rising))
                ends = Fraction(*shares.ends(flow, first))
                self.assertLessEqual(rising[-1], ends)
                near += flow.is_endless() and ends - rising[-1] < Fraction(1, 1000)
        self.assertGreater(near, 10)

    def test_best_plans_surely_end(self):
        """[45], [46]: if no deed fails, a best plan ends, with no more deeds than turns_needed says."""
        done = 0
        for chance, plain, book, w in game_cases(287, 80):
            shares = Chances(book, random_weights(chance, plain, True))
            plan = best_plan(w)
            for first in all_truths(plain[0]):
                if sure_from(w).holds(first):
                    most = turns_needed(w, first)
                    self.assertEqual(shares.ends(plan, first), (1, 1))
                    self.assertEqual(shares.early(plan, first, most), (1, 1))
                    self.assertLessEqual(Fraction(*shares.mean(plan, first)), most)
                    done += most > 0
                else:
                    self.assertEqual(shares.ends(plan, first), (0, 1))
        self.assertGreater(done, 30)


class Errors(unittest.TestCase):
    def setUp(self):
        self.book = Book(["x"], ["d", "e"])
        self.weights = {"d": [(Say.yes(), Say.yes(), 1)], "e": []}
        self.shares = Chances(self.book, self.weights)
        self.d, self.e = Flow.deed(self.book, "d"), Flow.deed(self.book, "e")

    def check(self, weights, name):
        with self.assertRaises(BadWeights, msg=repr(weights)) as caught:
            Chances(self.book, weights)
        self.assertIs(caught.exception.name, name)

    def test_bad_weights(self):
        for thing in odd_things():
            if not isinstance(thing, dict):
                self.check(thing, None)
        x = Say.test("x")
        wrong = [thing for thing in odd_things() if thing not in ([], ())]
        triples = [(x, x, 0), (x, x, 101), (x, x, -1), (x, x, True), (x, x, "1"), (x, x), (x, x, 1, 1), (x, 1), ("x", x, 1),
                   (x, "x", 1), (Say.test("y"), x, 1), (x, Say.test("y"), 1), (x, Say.test("e"), 1), (None, x, 1), x,
                   (x, x, None), (x, 1, x), (x, x, [1]), {x.tests()[0]: x}]
        for thing in wrong + [[one] for one in triples] + [((x, x, 1), one) for one in triples] + [x, 5, "x"]:
            self.check({"d": thing, "e": []}, "d")
            self.check({"e": thing, "d": ()}, "e")
            self.check({"e": thing, "d": thing, "a": thing}, "d")
            self.check({"f": 0, "e": thing, "d": []}, "e")
        self.check({}, "d")
        self.check({"d": []}, "e")
        for key in ("x", "", 0, None, True, (), ("d",), "D"):
            self.check({"d": [], key: [], "e": [], "other": []}, key)
            self.check({"d": [], key: []}, "e")
        good = Chances(self.book, {"d": [[x | Say.test("z") & ~Say.test("z"), x, 100]], "e": ()})
        self.assertEqual(good.of((("x",), "d", ("x",))), (1, 1))

    def test_bad_rows(self):
        odd = [thing for thing in odd_things() if thing != [()]]
        for thing in odd + [((), "d"), ((), "f", ()), (("y",),), "d", ((), "d", ("x", "x")), ((), "d", (), "e")]:
            with self.assertRaises(BadRow) as caught:
                self.shares.of(thing)
            self.assertIs(caught.exception.thing, thing)

    def calls(self, flow, first, last, most):
        yield lambda: self.shares.end(flow, first, last)
        yield lambda: self.shares.ends(flow, first)
        yield lambda: self.shares.early(flow, first, most)
        yield lambda: self.shares.mean(flow, first)

    def test_the_order_of_errors(self):
        strict = Book(["x"], ["d", "e"], [(Say.yes(), "d", Say.test("x"))])
        for flow in (Flow.deed(strict, "d"), Flow.full(strict), Flow.skip(Book(["x"], ["d"])), Flow.skip(Book([], ["d", "e"]))):
            for call in self.calls(flow, "wrong", 0, -1):
                self.assertRaises(UnlikeBooks, call)
        for flow in (self.d | self.e, self.d.often(), Flow.full(self.book), self.d | Flow.skip(self.book)):
            for call in self.calls(flow, "wrong", 0, -1):
                self.assertRaises(NotSure, call)
            for call in self.calls(flow, (), (), 0):
                self.assertRaises(NotSure, call)
        for call in self.calls(Flow.deed(Book(("x",), ("e", "d")), "d"), (), (), 1):
            self.assertIsInstance(call(), tuple)

    def test_bad_truths_and_counts(self):
        # Truths may be told by lists, also by empty ones.
        odd = [thing for thing in odd_things() if thing not in ((), [])]
        for thing in odd + [("x", "x"), ("d",), "x", ("x", 0), [["x"]]]:
            for call in self.calls(self.d, thing, None, -1):
                with self.assertRaises(BadTruths) as caught:
                    call()
                self.assertIs(caught.exception.thing, thing)
            with self.assertRaises(BadTruths) as caught:
                self.shares.end(self.d, ["x"], thing)
            self.assertIs(caught.exception.thing, thing)
        for thing in odd_things():
            if thing != 10 ** 30:
                with self.assertRaises(BadCount) as caught:
                    self.shares.early(self.d, (), thing)
                self.assertIs(caught.exception.thing, thing)
                self.assertRaises(BadTruths, self.shares.early, self.d, ("y",), thing)
        self.assertEqual(self.shares.end(self.d, ["x"], []), (1, 2))

    def test_weights_that_are_changed_behind(self):
        weights = {"d": [[Say.yes(), Say.yes(), 1]], "e": []}
        shares = Chances(self.book, weights)
        weights["d"][0][2] = 9
        weights["d"].append((Say.yes(), Say.test("x"), 5))
        del weights["e"]
        self.assertEqual(shares.of(((), "d", ("x",))), (1, 2))
        self.assertEqual(shares.ends(self.e, ()), (0, 1))


if __name__ == "__main__":
    unittest.main()
