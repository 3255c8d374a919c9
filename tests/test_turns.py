"""[3], [4]: what is returned is new at every depth, and objects that are asked by turns tell the same as alone."""

import copy
import unittest

from deedmeanings.barring import barred, bars_enough, bars_shown, bars_wanting
from deedmeanings.chances import Chances
from deedmeanings.comparing import cover, is_cover, parting, unlike
from deedmeanings.flows import Flow
from deedmeanings.gaps import loosest
from deedmeanings.holding import breaking, holds, needed, reached, strongest_kept, thereafter, weakest_kept, when
from deedmeanings.learning import told_back
from deedmeanings.ledgers import Ledger
from deedmeanings.meanings import Meaning
from deedmeanings.plans import best_plan, is_plan, is_trap, sure_from, trap, turns_needed
from deedmeanings.prices import Prices
from deedmeanings.programs import Program, program_of
from deedmeanings.promising import enough, shown, wanting
from deedmeanings.ranking import index_of, number_of, row_at, row_number
from deedmeanings.readers import reader_of
from deedmeanings.says import Say
from deedmeanings.systems import System
from deedmeanings.texts import (read_book, read_flow, read_program, read_say, write_book, write_flow, write_program,
                                write_say)

from tests.plain import all_truths, book_of, chances, flow_of, random_book, random_tree, say_of
from tests.test_chances import random_weights, sure_tree
from tests.test_meanings import random_meaning
from tests.test_prices import random_costs
from tests.test_programs import random_lines
from tests.test_promising import random_promises


def spoil(thing):
    """Changes all lists and dicts of something that was returned."""
    if isinstance(thing, (list, tuple)):
        for part in thing:
            spoil(part)
    if isinstance(thing, dict):
        for part in thing.values():
            spoil(part)
        thing["spoiled"] = 0
    if isinstance(thing, list):
        thing.append("spoiled")


class Case:
    """A random book with what is asked of it: lists of calls, each of which makes its objects anew."""

    def __init__(self, seed):
        self.chance = chances(seed)
        self.plain = random_book(self.chance, ("x", "y"), ("d", "e"), 0.7)
        self.book = book_of(self.plain)
        self.trees = [random_tree(self.chance, self.plain, 2) for _ in range(3)]
        self.lines = random_lines(self.chance, self.plain, 8)
        self.meaning = random_meaning(self.chance, self.plain, 5)[1:]
        self.promises = random_promises(self.chance, self.plain, 3)
        self.costs = random_costs(self.chance, self.plain)
        self.weights = random_weights(self.chance, self.plain)
        self.sure = sure_tree(self.chance, self.plain, 3)
        self.say = say_of(self.plain[0], [truths for truths in all_truths(self.plain[0]) if self.chance.random() < 0.5])

    def flows(self):
        return [flow_of(tree, self.plain, self.book) for tree in self.trees]

    def of_readers(self):
        reader = reader_of(self.flows()[0])
        truths = self.book.truths()
        calls = [lambda place=place: reader.ends(place) for place in range(len(reader))]
        calls += [lambda place=place: reader.way(place) for place in range(len(reader))]
        calls += [lambda some=some, deed=deed: reader.step(0, some, deed) for some in truths for deed in ("d", "e")]
        return calls + [lambda: reader.reads(((), "d", ())), lambda: len(reader), reader.flow, lambda: reader.book]

    def of_meanings(self):
        meaning = Meaning(self.book, 5, *self.meaning)
        flow = self.flows()[1]
        calls = [lambda state=state: meaning.truths(state) for state in range(5)]
        calls += [lambda state=state: meaning.ends(flow, state) for state in range(5)]
        return calls + [lambda: meaning.states(self.say), lambda: meaning.ways("d"), lambda: meaning.leads(flow),
                        lambda: meaning.keeps(self.promises[0]), lambda: meaning + meaning, lambda: meaning]

    def of_programs(self):
        program = Program(self.book, self.lines)
        return [program.lines, program.flow, lambda: program.known(self.say), program.dead, program.decided,
                program.clean, lambda: len(program), lambda: program + program, lambda: program.book,
                lambda: program_of(self.flows()[2]), lambda: program]

    def of_flows(self):
        p, q, r = self.flows()
        asked = [lambda: unlike(p, q), lambda: cover(p & q, q), lambda: parting(p, q), lambda: loosest(p, q, r),
                 lambda: is_cover(p, p, cover(p, p)), lambda: reached(self.say, p), lambda: needed(p, self.say),
                 lambda: holds(self.say, p, ~self.say), lambda: breaking(self.say, p, self.say),
                 lambda: strongest_kept(self.say, p), lambda: weakest_kept(p, self.say), lambda: when(p, q),
                 lambda: thereafter(p, q)]
        asked += [lambda call=call: call(p, q, self.promises) for call in (enough, wanting, shown)]
        return asked + [lambda: p, lambda: q, lambda: r]

    def of_texts(self):
        p = self.flows()[0]
        program = Program(self.book, self.lines)
        return [lambda: write_say(self.say), lambda: read_say(write_say(self.say)), lambda: write_flow(p),
                lambda: read_flow(self.book, write_flow(p)), lambda: write_book(self.book),
                lambda: read_book(write_book(self.book)), lambda: write_program(program),
                lambda: read_program(self.book, write_program(program)), lambda: self.book]

    def of_bars_plans_and_places(self):
        p, q, r = self.flows()
        bars = [r, Flow.deed(self.book, "d")]
        asked = [lambda call=call: call(p, q, bars) for call in (bars_enough, bars_wanting, bars_shown)]
        asked += [lambda: barred(p, r), lambda: sure_from(p), lambda: best_plan(p), lambda: trap(p),
                  lambda: is_plan(p, best_plan(p), self.say), lambda: is_trap(p, trap(p))]
        asked += [lambda truths=truths: turns_needed(q, truths) for truths in self.book.truths()]
        full = Flow.full(self.book)
        asked += [lambda: row_at(full, 0, 2), lambda: index_of(full, (("y", "x"),)), lambda: row_number(full, 3),
                  lambda: number_of(full, (["x"],))]

        def differ(flow):
            return ((flow - p) | (p - flow)).first()
        return asked + [lambda: told_back(self.book, lambda row: row in p, differ), lambda: p]

    def of_prices_chances_and_systems(self):
        p, q, r = self.flows()
        sure = flow_of(self.sure, self.plain, self.book)
        prices, shares = Prices(self.book, self.costs), Chances(self.book, self.weights)
        equations = {"a": [(p, "b"), (r, None)], "b": [(q, "a"), (p, "b")]}
        system = System(self.book, equations)
        asked = [lambda ask=ask: ask(p) for ask in (prices.least, prices.greatest, prices.cheapest, prices.dearest,
                                                    prices.some_purse, prices.every_purse)]
        asked += [lambda: prices.paid(q, 3, 5), lambda: prices.of(((),)), lambda: shares.of(((),))]
        for truths in self.book.truths():
            asked += [lambda truths=truths: shares.ends(sure, truths), lambda truths=truths: shares.mean(sure, truths),
                      lambda truths=truths: shares.early(sure, truths, 4),
                      lambda truths=truths: shares.end(sure, truths, ())]
        return asked + [lambda: system.least("a"), lambda: system.greatest("b"), system.unknowns, system.is_one,
                        lambda: system.solves({name: system.least(name) for name in "ab"}),
                        lambda: prices.book, lambda: shares.book, lambda: system.book]

    def of_ledgers(self):
        p, q, r = self.flows()
        ledger = Ledger(p)
        deeds = [lambda: ledger.propose("a", q), lambda: ledger.assume("b", self.promises[0]),
                 lambda: ledger.propose("c", r & p), lambda: ledger.take("c"), lambda: ledger.withdraw("a"),
                 ledger.undo, ledger.undo, ledger.redo, ledger.undo]
        asked = [ledger.states, ledger.promises, ledger.flow, ledger.book_now, lambda: len(ledger)]
        return [call for deed in deeds for call in [deed] + asked]

    def all_calls(self):
        return [self.of_readers(), self.of_meanings(), self.of_programs(), self.of_flows(), self.of_texts(),
                self.of_bars_plans_and_places(), self.of_prices_chances_and_systems(), self.of_ledgers()]


class Turns(unittest.TestCase):
    def test_by_turns_as_alone(self):
        for seed in range(12):
            cases = [Case(seed), Case(seed + 100)]
            alone = [[[call() for call in calls] for calls in case.all_calls()] for case in cases]
            waiting = [[calls, [], told] for case, wanted in zip(cases, alone)
                       for calls, told in zip(case.all_calls(), wanted)]
            for at in range(max(len(calls) for calls, _, _ in waiting)):
                for calls, found, _ in waiting:
                    found += [call() for call in calls[at:at + 1]]
            for _, found, wanted in waiting:
                self.assertEqual(found, wanted)

    def test_what_is_told_is_new(self):
        for seed in range(12):
            case = Case(seed)
            kept = copy.deepcopy((case.lines, case.meaning, case.promises, case.costs, case.weights))
            # A deed of a ledger is not done twice.
            asked = [call for calls in case.all_calls()[:-1] for call in calls]
            told = [call() for call in asked]
            spoiled = [call() for call in asked]
            self.assertEqual(told, spoiled)
            spoil(spoiled)
            self.assertEqual([call() for call in asked], told)
            self.assertEqual((case.lines, case.meaning, case.promises, case.costs, case.weights), kept)

    def test_what_ledgers_tell_is_new(self):
        for seed in range(12):
            case = Case(seed)
            kept = copy.deepcopy(case.promises)
            told = [call() for call in case.of_ledgers()]
            found = []
            for call in case.of_ledgers():
                value = call()
                found.append(copy.deepcopy(value))
                spoil(value)
            self.assertEqual(found, told)
            self.assertEqual(case.promises, kept)


class InPlace(unittest.TestCase):
    def test_no_operator_changes_an_object(self):
        case = Case(7)
        meaning, program = Meaning(case.book, 5, *case.meaning), Program(case.book, case.lines)
        p, q, _ = case.flows()
        made = {"flow": p, "meaning": meaning, "program": program, "say": case.say}
        more = dict(made)
        more["flow"] |= q
        more["meaning"] += meaning
        more["program"] += program
        more["say"] ^= Say.test("x")
        self.assertEqual(made, {"flow": case.flows()[0], "meaning": Meaning(case.book, 5, *case.meaning),
                                "program": Program(case.book, case.lines), "say": case.say})
        self.assertEqual(more["flow"], p | q)
        self.assertEqual((more["meaning"].size, len(made["program"])), (10, len(case.lines)))
        self.assertEqual(more["program"].flow(), program.flow() >> program.flow())
        self.assertEqual(more["flow"] >> Flow.skip(case.book), p | q)


if __name__ == "__main__":
    unittest.main()
