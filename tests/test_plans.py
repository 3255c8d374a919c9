"""[45] to [47]: plans, against a game that is played on the places of the reader, and against beginnings of rows."""

import itertools
import unittest

from deedmeanings.books import Book
from deedmeanings.errors import BadTruths, NoTest, UnlikeBooks
from deedmeanings.flows import Flow, whilst
from deedmeanings.plans import best_plan, is_plan, is_trap, sure_from, trap, turns_needed
from deedmeanings.readers import reader_of
from deedmeanings.says import Say

from tests.plain import all_truths, book_of, chances, flow_of, random_book, random_tree, say_of
from tests.things import SHAPES, odd_things


class Game:
    """The needs of places of the reader of a flow with truths, found by going through the steps of a plain book."""

    def __init__(self, plain, flow):
        self.tests, self.deeds, self.lets = plain
        self.every = all_truths(self.tests)
        self.reader = reader_of(flow)
        self.needs = {(place, truths): 0 for place in range(len(self.reader)) for truths in self.reader.ends(place)}
        count = 0
        fresh = True
        while fresh:
            fresh = [point for point in itertools.product(range(len(self.reader)), self.every)
                     if point not in self.needs and self.fit(point, count)]
            count += 1
            self.needs.update({point: count for point in fresh})

    def behind(self, point, deed):
        """The points to which a deed leads, None if the reader does not go on with it, or the book lets no step."""
        place, truths = point
        target = self.reader.step(place, truths, deed)
        if target is None or not self.lets[truths, deed]:
            return None
        return [(target, last) for last in sorted(self.lets[truths, deed])]

    def fit(self, point, most):
        """The deeds that are fit for a point by a number."""
        found = []
        for deed in sorted(self.deeds):
            behind = self.behind(point, deed)
            if behind and all(self.needs.get(other, most + 1) <= most for other in behind):
                found.append(deed)
        return found

    def plan_rows(self, longest):
        """All rows of the best plan up to a length."""
        rows = [((truths,), 0) for truths in self.every if (0, truths) in self.needs]
        found = []
        while rows:
            row, place = rows.pop()
            need = self.needs[place, row[-1]]
            if not need:
                found.append(row)
            elif len(row) // 2 < longest:
                deed = self.fit((place, row[-1]), need - 1)[0]
                rows += [(row + (deed, last), target) for target, last in self.behind((place, row[-1]), deed)]
        return found


def narrow_book(chance, tests, names):
    """A plain book in which each step leads to one or two truths."""
    every = all_truths(tests)
    return tests, names, {(truths, deed): {chance.choice(every) for _ in range(chance.choice([1, 1, 1, 2]))}
                          for truths in every for deed in names}


def game_cases(seed, many, deeds=4):
    """Flows that are drawn, some of which surely may be brought to an end."""
    chance = chances(seed)
    for _ in range(many):
        tests, names = chance.choice(SHAPES)
        plain = random_book(chance, tests, names, chance.choice([0.3, 0.5, 0.7, 1.0]))
        if chance.random() < 0.5:
            plain = narrow_book(chance, tests, names)
        book = book_of(plain)
        tree = random_tree(chance, plain, chance.randrange(deeds + 1))
        if chance.random() < 0.3:
            tree = ("check", (chance.choice(all_truths(tests)),))
        if chance.random() < 0.6:
            full = ("often", ("|", ("deed", names[0]), ("deed", names[-1])))
            tree = (">>", full, tree) if chance.random() < 0.7 else ("&", (">>", full, tree), ("~", ("skip",)))
        yield chance, plain, book, flow_of(tree, plain, book)


def some_say(chance, tests):
    return say_of(tests, [truths for truths in all_truths(tests) if chance.random() < 0.5])


class Needs(unittest.TestCase):
    def test_against_the_game(self):
        needs = set()
        for _, plain, book, w in game_cases(241, 150):
            game = Game(plain, w)
            sure = [truths for truths in game.every if (0, truths) in game.needs]
            self.assertEqual(sure_from(w), say_of(plain[0], sure))
            for truths in game.every:
                self.assertEqual(turns_needed(w, truths), game.needs.get((0, truths)))
                self.assertEqual(turns_needed(w, list(truths)[::-1]), game.needs.get((0, truths)))
            needs |= set(game.needs.values())
            pairs = [point for point in itertools.product(range(len(game.reader)), game.every)
                     if point not in game.needs]
            self.assertEqual(trap(w), pairs)
        self.assertGreaterEqual(len(needs), 4)

    def test_rows_of_the_best_plan(self):
        lengths = set()
        for _, plain, book, w in game_cases(242, 150):
            game = Game(plain, w)
            plan = best_plan(w)
            rows = game.plan_rows(6)
            self.assertEqual(plan.book, book)
            for length in range(7):
                self.assertEqual(plan.rows(length) if length < 4 else plan.count(length),
                                 sorted(row for row in rows if len(row) // 2 == length) if length < 4
                                 else sum(len(row) // 2 == length for row in rows))
            most = max([need for (place, _), need in game.needs.items() if place == 0], default=0)
            self.assertFalse(plan.is_endless())
            for row in rows:
                self.assertLessEqual(len(row) // 2, turns_needed(w, row[0]))
                lengths.add(len(row) // 2)
            self.assertTrue(plan.length() is None or plan.length() <= most)
            self.assertTrue(is_plan(w, plan, sure_from(w)))
        self.assertGreaterEqual(len(lengths), 4)

    def test_by_the_beginnings(self):
        """Of flows with short rows needs are told by beginnings, as the words of the point have it."""
        chance = chances(243)
        for _ in range(60):
            tests, names = chance.choice(SHAPES)
            plain = random_book(chance, tests, names, chance.choice([0.3, 0.6, 1.0]))
            book = book_of(plain)
            tree = random_tree(chance, plain, 3, (">>", "|"), ("either",))
            w = flow_of(tree, plain, book)
            rows = {row for length in range(4) for row in w.rows(length)}
            begun = {row[:end] for row in rows for end in range(1, len(row) + 1, 2)}
            needs = {row: 0 for row in rows}
            for number in range(1, 5):
                needs.update({row: number for row in begun - set(needs) for deed in names
                              if plain[2][row[-1], deed]
                              and all(needs.get(row + (deed, last), number) < number for last in plain[2][row[-1], deed])})
            for truths in all_truths(tests):
                self.assertEqual(turns_needed(w, truths), needs.get((truths,)))

    def test_by_hand(self):
        x, y = Say.test("x"), Say.test("y")
        book = Book(["x", "y"], ["d", "e"], [(~x, "d", x), (x & ~y, "e", y & x), (~x, "e", ~x)])
        d, e = Flow.deed(book, "d"), Flow.deed(book, "e")
        goal = (d | e).often() >> Flow.check(book, x & y)
        self.assertEqual(sure_from(w=goal), Say.yes())
        self.assertEqual([turns_needed(w=goal, truths=some) for some in ((), ("x",), ("x", "y"), ("y",))], [2, 1, 0, 2])
        plan = best_plan(w=goal)
        self.assertEqual(plan.rows(0), [(("x", "y"),)])
        self.assertEqual(plan.rows(1), [((), "d", ("x", "y")), (("x",), "e", ("x", "y")), (("y",), "d", ("x", "y"))])
        self.assertEqual(plan.rows(2), [((), "d", ("x",), "e", ("x", "y")), (("y",), "d", ("x",), "e", ("x", "y"))])
        self.assertIs(is_plan(w=goal, x=plan, say=Say.yes()), True)
        self.assertEqual([pair for pair in trap(w=goal) if pair[0] == 0], [])
        # The least deed is taken where several are fit, also where another one might be done sooner.
        both = d | e
        self.assertEqual(best_plan(both), d)
        self.assertEqual(best_plan(Flow.check(book, x) | both), Flow.check(book, x) | Flow.check(book, ~x) >> d)
        self.assertEqual(best_plan(e | e >> d), e)
        # Only y may come, or not: nothing is sure.
        free = Book(["x"], ["d"])
        wish = Flow.deed(free, "d") >> Flow.check(free, x)
        self.assertEqual(sure_from(wish), Say.no())
        self.assertIsNone(turns_needed(wish, ()))
        self.assertEqual(best_plan(wish), Flow.stop(free))
        self.assertEqual(trap(wish), [(0, ()), (0, ("x",)), (1, ())])
        # Again and again it might come, but it need not.
        self.assertEqual(sure_from(wish.often() >> wish), Say.no())
        self.assertEqual(sure_from(whilst(~x, Flow.deed(free, "d"))), x)

    def test_a_step_that_is_not_let_is_no_way_on(self):
        x = Say.test("x")
        book = Book(["x"], ["d"], [(x, "d", Say.no())])
        d = Flow.deed(book, "d")
        self.assertEqual(sure_from(d), ~x)
        self.assertEqual(sure_from(d >> d), Say.no())
        self.assertEqual(trap(d), [(0, ("x",))])
        self.assertIs(is_trap(d >> d, [(0, ("x",))]), True)

    def test_flows_without_rows_and_rows_of_length_0(self):
        book = Book(["x"], ["d"])
        stop, skip = Flow.stop(book), Flow.skip(book)
        check = Flow.check(book, Say.test("x"))
        self.assertEqual((sure_from(stop), sure_from(skip), sure_from(check)), (Say.no(), Say.yes(), Say.test("x")))
        self.assertEqual([best_plan(flow) for flow in (stop, skip, check)], [stop, skip, check])
        self.assertEqual([turns_needed(flow, ()) for flow in (stop, skip, check)], [None, 0, None])
        self.assertEqual([trap(flow) for flow in (stop, skip, check)], [[(0, ()), (0, ("x",))], [], [(0, ())]])
        full = Flow.full(book)
        self.assertEqual(best_plan(full), skip)
        self.assertIs(is_plan(stop, stop, Say.no()), True)
        self.assertIs(is_plan(stop, stop, Say.yes()), False)
        self.assertIs(is_plan(full, skip, Say.yes()), True)

    def test_wrong_truths(self):
        book = Book(["x", "y"], ["d"])
        for thing in odd_things() + [("x", "x"), ("d",), "x", ("x", 0), ("x", "y", "z"), [["x"]]]:
            if thing == () or thing == []:
                continue
            for flow in (Flow.full(book), Flow.stop(book)):
                with self.assertRaises(BadTruths) as caught:
                    turns_needed(flow, thing)
                self.assertIs(caught.exception.thing, thing)


def is_plan_by_steps(plain, w, x, say, longest):
    """Whether x, of which no row has more deeds than so many, is a plan: by all its rows and their beginnings."""
    rows = {row for length in range(longest + 1) for row in x.rows(length)}
    begun = {row[:end] for row in rows for end in range(1, len(row) + 1, 2)}
    every = {truths for truths in all_truths(plain[0]) if say.holds(truths)}
    ways = {}
    for row in rows:
        for end in range(1, len(row), 2):
            ways.setdefault(row[:end], set()).add(row[end])
    if any(len(ways.get(row, ())) + (row in rows) > 1 for row in begun):
        return False
    if not all(row in w for row in rows) or not every <= {row[0] for row in begun}:
        return False
    return all(row + (deed, last) in begun for row in ways for deed in ways[row] for last in plain[2][row[-1], deed])


class IsPlan(unittest.TestCase):
    def test_parts_of_plans_and_more(self):
        answers = []
        for chance, plain, book, w in game_cases(244, 200, 3):
            plan = best_plan(w)
            if any(plan.count(length) for length in range(4, 8)):
                continue
            more = flow_of(random_tree(chance, plain, 1, (">>", "|"), ()), plain, book)
            check = Flow.check(book, some_say(chance, plain[0]))
            for x in (plan, check >> plan, plan >> check, plan | more, plan - more, plan & more, more,
                      check >> plan | Flow.check(book, sure_from(w)) >> more, Flow.stop(book)):
                if any(x.count(length) for length in range(4, 8)) or x.is_endless():
                    continue
                for say in (sure_from(w), some_say(chance, plain[0]), Say.no(), Say.yes()):
                    wanted = is_plan_by_steps(plain, w, x, say, 3)
                    self.assertIs(is_plan(w, x, say), wanted)
                    answers.append(wanted)
                    if wanted:
                        self.assertTrue(say <= sure_from(w))
        self.assertGreater(answers.count(True), 300)
        self.assertGreater(answers.count(False), 300)

    def test_flows_with_rings(self):
        x = Say.test("x")
        book = Book(["x"], ["d", "e"], [(Say.yes(), "e", x)])
        d, e = Flow.deed(book, "d"), Flow.deed(book, "e")
        w = (d | e).often() >> Flow.check(book, x)
        ring = whilst(~x, d)
        self.assertTrue(ring <= w)
        # Each step of the ring may lead to where it ends, but it need not do so.
        self.assertIs(is_plan(w, ring, ~x), False)
        self.assertIs(is_plan(w, ring, Say.yes()), False)
        self.assertIs(is_plan(w, ring, x), True)
        self.assertIs(is_plan(w, ring, Say.no()), True)
        self.assertIs(is_plan(w, whilst(~x, e), Say.yes()), True)
        self.assertEqual(best_plan(w), whilst(~x, e))
        strict = Book(["x", "y"], ["d"], [(~Say.test("y"), "d", Say.test("y") & ~x), (Say.test("y"), "d", x)])
        loop = whilst(~x, Flow.deed(strict, "d"))
        self.assertIs(loop.is_endless(), False)
        self.assertIs(is_plan(loop, loop, Say.yes()), True)
        self.assertEqual(sure_from(loop), Say.yes())

    def test_flows_that_leave_a_choice(self):
        x = Say.test("x")
        book = Book(["x"], ["d", "e"])
        d, e, skip = Flow.deed(book, "d"), Flow.deed(book, "e"), Flow.skip(book)
        w = Flow.full(book)
        for plan, wanted in ((d | e, False), (d | skip, False), (d, True), (d >> e, True), (d >> (e | skip), False),
                             (Flow.check(book, x) >> d | Flow.check(book, ~x), True), (d | d >> d, False),
                             (d >> Flow.check(book, x), False), (d >> Flow.check(book, x) >> e, False)):
            self.assertIs(is_plan(w, plan, Say.yes()), wanted)
        # Where say does not hold x may be anything that is sure and goes on with all truths.
        other = Flow.check(book, ~x) >> d >> Flow.check(book, x) | Flow.check(book, x)
        self.assertIs(is_plan(w, other, x), False)
        self.assertIs(is_plan(w, Flow.check(book, x) | Flow.check(book, ~x) >> whilst(x, d), x), True)
        self.assertIs(is_plan(w - e, e, Say.no()), False)

    def test_errors(self):
        book, other = Book(["x"], ["d"]), Book(["x"], ["d"], [(Say.test("x"), "d", Say.test("x"))])
        w = Flow.full(book)
        for flow in (Flow.skip(other), Flow.skip(Book(["x"], ["e"])), Flow.skip(Book(["x", "y"], ["d"]))):
            for say in (Say.yes(), Say.test("z")):
                self.assertRaises(UnlikeBooks, is_plan, w, flow, say)
        with self.assertRaises(NoTest) as caught:
            is_plan(w, w, Say.test("z") | Say.test("y") | Say.test("x"))
        self.assertEqual(caught.exception.name, "y")
        self.assertIs(is_plan(w, Flow.skip(Book(("x",), ["d"])), Say.test("y") | ~Say.test("y")), True)


class Traps(unittest.TestCase):
    def is_trap_by_steps(self, game, pairs):
        for point in pairs:
            if game.needs.get(point) == 0:
                return False
            for deed in game.deeds:
                behind = game.behind(point, deed)
                if behind and not any(other in pairs for other in behind):
                    return False
        return True

    def test_against_the_steps(self):
        answers = []
        for chance, plain, _, w in game_cases(245, 120):
            game = Game(plain, w)
            every = list(itertools.product(range(len(game.reader)), game.every))
            largest = trap(w)
            self.assertIs(is_trap(w, largest), True)
            self.assertIs(is_trap(w, []), True)
            self.assertEqual(sure_from(w), say_of(plain[0], [some for some in game.every if (0, some) not in largest]))
            for _ in range(8):
                share = chance.choice([0.2, 0.8, 0.95])
                pairs = [point for point in (largest if chance.random() < 0.7 else every) if chance.random() < share]
                wanted = self.is_trap_by_steps(game, pairs)
                told = [[place, list(truths)[::-1]] for place, truths in pairs]
                chance.shuffle(told)
                self.assertIs(is_trap(w, told), wanted)
                self.assertIs(is_trap(w, tuple(pairs + pairs[:1])), wanted)
                if wanted:
                    self.assertTrue(set(pairs) <= set(largest))
                answers.append(wanted)
        self.assertGreater(answers.count(True), 100)
        self.assertGreater(answers.count(False), 100)

    def test_objects_of_all_kinds(self):
        book = Book(["x", "y"], ["d"])
        w = Flow.deed(book, "d") >> Flow.check(book, Say.test("x"))
        told = trap(w)
        self.assertIs(is_trap(w=w, thing=told), True)
        for thing in odd_things():
            self.assertIs(is_trap(w, thing), thing in ([], ()))
            self.assertIs(is_trap(w, [thing]), False)
            self.assertIs(is_trap(w, told + [thing]), False)
            self.assertIs(is_trap(w, told + [(0, thing)]), thing in ([], ()))
            self.assertIs(is_trap(w, told + [(thing, ())]), False)
        for pair in ((0,), (0, (), 0), (2, ()), (-1, ()), (True, ()), (0, ("z",)), (0, ("x", "x")), (0, "x"), ("0", ()),
                     {0: ()}, (0, None), ((), 0)):
            self.assertIs(is_trap(w, told + [pair]), False)
            self.assertIs(is_trap(w, [pair]), False)
        self.assertIs(is_trap(w, [(1, ()), (1, ("y",)), (0, ("y", "x"))]), True)
        self.assertIs(is_trap(w, [(1, ()), (1, ("x",))]), False)

    def test_what_is_told_is_new(self):
        book = Book(["x"], ["d"])
        w = Flow.deed(book, "d") >> Flow.check(book, Say.test("x"))
        told = trap(w)
        kept = list(told)
        told.append("spoiled")
        self.assertEqual(trap(w), kept)
        self.assertTrue(all(isinstance(pair, tuple) for pair in kept))


if __name__ == "__main__":
    unittest.main()
