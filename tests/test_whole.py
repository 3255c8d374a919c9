"""[2] to [5] over the whole program: arguments by name in any order, passed things that are changed behind, and errors."""

import copy
import inspect
import itertools
import unittest

from deedmeanings import (barring, chances, comparing, errors, flows, gaps, holding, learning, meanings, plans, prices,
                          programs, promising, ranking, readers, systems, texts)
from deedmeanings.books import Book
from deedmeanings.comparing import parting, unlike
from deedmeanings.flows import Flow
from deedmeanings.ledgers import Ledger
from deedmeanings.meanings import Meaning
from deedmeanings.readers import reader_of
from deedmeanings.says import Say

from tests.plain import rows_of
from tests.things import flow_cases

X, Y = Say.test("x"), Say.test("y")
BOOK = Book(["x", "y"], ["d", "e"], [(X, "d", Y)])
D, E = Flow.deed(BOOK, "d"), Flow.deed(BOOK, "e")
CHECK = Flow.check(BOOK, X)


def differ(flow):
    return ((flow - D) | (D - flow)).first()


def everything():
    """All functions, classes and methods of the interface with arguments: what is called, and a dict of arguments."""
    lines = [("if", X, 2), ("do", "d"), ("end",)]
    meaning = Meaning(BOOK, 2, {"x": [0], "y": [1]}, {"d": [(0, 1)], "e": [(1, 0), (0, 0)]})
    program = programs.Program(BOOK, lines)
    reader = reader_of(D >> E)
    costs = prices.Prices(BOOK, {"d": [(X, 2)], "e": []})
    shares = chances.Chances(BOOK, {"d": [(X, X, 1), (Say.yes(), Y, 2)], "e": []})
    system = systems.System(BOOK, {"p": [(D, "p"), (E, None)]})
    found = [(Say.test, {"name": "x"}), (Say.of_terms, {"terms": [(("x",), ("y",))]}), (X.holds, {"true": ["x"]}),
             ((X | Y).given, {"name": "x", "truth": False}), (X.some, {"name": "x"}), (X.every, {"name": "x"}),
             (Book, {"tests": ["x"], "deeds": ["d"], "promises": [(X, "d", X)]}), (BOOK.more, {"promises": [(Y, "d", X)]}),
             (BOOK.lets, {"ahead": ["x"], "deed": "d", "behind": ["y"]}), (BOOK.behind, {"ahead": ["x"], "deed": "d"}),
             (BOOK.ahead, {"deed": "d", "behind": ["y"]}), (BOOK.follows, {"promise": (X, "d", X)}),
             (Flow.deed, {"book": BOOK, "deed": "d"}), (Flow.check, {"book": BOOK, "say": X}), (Flow.skip, {"book": BOOK}),
             (Flow.stop, {"book": BOOK}), (Flow.full, {"book": BOOK}), (D.under, {"book": BOOK}),
             (D.put, {"deed": "d", "part": E}), (D.count, {"n": 1}), (D.rows, {"n": 1}),
             (flows.either, {"say": X, "p": D, "q": E}), (flows.whilst, {"say": X, "p": D}),
             (readers.reader_of, {"flow": D}), (reader.step, {"place": 0, "truths": ["x"], "deed": "d"}),
             (reader.ends, {"place": 0}), (reader.way, {"place": 1}), (reader.reads, {"row": (("x",), "d", ("y",))}),
             (comparing.is_cover, {"p": D, "q": D, "thing": comparing.cover(D, D)}),
             (comparing.is_parting, {"p": D, "q": E, "thing": parting(D, E)}),
             (Meaning, {"book": BOOK, "size": 1, "tests": {"x": [], "y": [0]}, "deeds": {"d": [(0, 0)], "e": []}}),
             (Meaning.of_row, {"book": BOOK, "row": (("x",), "d", ("y",))}), (meaning.truths, {"state": 1}),
             (meaning.states, {"say": Y}), (meaning.ways, {"deed": "e"}), (meaning.keeps, {"promise": (X, "d", X)}),
             (meaning.ends, {"flow": D, "state": 0}), (meaning.leads, {"flow": E}),
             (holding.reached, {"say": X, "p": D}), (holding.needed, {"p": D, "say": Y}),
             (holding.holds, {"before": X, "p": D, "behind": Y}), (holding.breaking, {"before": X, "p": E, "behind": Y}),
             (holding.strongest_kept, {"say": X, "p": D}), (holding.weakest_kept, {"p": D, "say": Y}),
             (gaps.loosest, {"ahead": D, "whole": D >> E >> D, "behind": D}),
             (gaps.loosest_end, {"ahead": D, "whole": D >> E}), (gaps.loosest_start, {"whole": D >> E, "behind": E}),
             (programs.Program, {"book": BOOK, "lines": lines}), (program.known, {"say": X}),
             (programs.program_of, {"flow": D}), (Ledger, {"flow": D}),
             (texts.write_say, {"say": X ^ Y}), (texts.read_say, {"text": "x & ~y"}), (texts.write_flow, {"flow": D >> E}),
             (texts.read_flow, {"book": BOOK, "text": "d;[x]"}), (texts.write_book, {"book": BOOK}),
             (texts.read_book, {"text": "tests x\ndeeds d\n"}), (texts.write_program, {"program": program}),
             (texts.read_program, {"book": BOOK, "text": "do d\n"}), (barring.barred, {"p": D | E, "r": CHECK}),
             (plans.sure_from, {"w": D}), (plans.turns_needed, {"w": D, "truths": ["x"]}), (plans.best_plan, {"w": D | E}),
             (plans.is_plan, {"w": D | E, "x": E, "say": X}), (plans.trap, {"w": CHECK}),
             (plans.is_trap, {"w": CHECK, "thing": [(0, ())]}), (ranking.row_at, {"p": D, "n": 1, "index": 3}),
             (ranking.index_of, {"p": D, "row": (("x",), "d", ("y",))}), (ranking.row_number, {"p": D, "number": 2}),
             (ranking.number_of, {"p": D, "row": (("x",), "d", ("y",))}),
             (learning.told_back, {"book": BOOK, "ask": lambda row: row in D, "differ": differ}),
             (prices.Prices, {"book": BOOK, "costs": {"d": [], "e": []}}), (costs.of, {"row": (("x",), "d", ("y",))}),
             (costs.paid, {"p": D | E, "purse": 2, "cap": 1}),
             (chances.Chances, {"book": BOOK, "weights": {"d": [], "e": []}}),
             (shares.of, {"row": (("x",), "d", ("y",))}), (shares.end, {"p": D, "first": ["x"], "last": ["y"]}),
             (shares.ends, {"p": D, "first": ["x"]}), (shares.early, {"p": D, "first": ["x"], "most": 1}),
             (shares.mean, {"p": D, "first": ["x"]}), (systems.System, {"book": BOOK, "equations": {"p": [(D, None)]}}),
             (system.solves, {"thing": {"p": D}}), (system.least, {"name": "p"}), (system.greatest, {"name": "p"})]
    for call in (comparing.unlike, comparing.cover, comparing.parting, holding.when, holding.thereafter):
        found.append((call, {"p": D | E, "q": D}))
    for call in (promising.enough, promising.wanting, promising.shown):
        found.append((call, {"p": D, "q": D >> CHECK, "promises": [(X, "d", X), (~X, "d", X)]}))
    for call in (barring.bars_enough, barring.bars_wanting, barring.bars_shown):
        found.append((call, {"p": D | E, "q": D, "bars": [E, CHECK]}))
    for call in (costs.least, costs.greatest, costs.cheapest, costs.dearest, costs.some_purse, costs.every_purse):
        found.append((call, {"p": D}))
    return found


def told(thing):
    """What is looked at of an object that is not compared as a whole."""
    if isinstance(thing, Ledger):
        return thing.flow(), thing.states()
    if isinstance(thing, prices.Prices):
        return thing.book, [thing.of(row) for row in Flow.full(thing.book).rows(1)]
    if isinstance(thing, chances.Chances):
        return thing.book, [thing.of(row) for row in Flow.full(thing.book).rows(1)]
    if isinstance(thing, systems.System):
        return thing.book, [(name, thing.least(name), thing.greatest(name)) for name in thing.unknowns()]
    return thing


class ByName(unittest.TestCase):
    def test_in_any_order(self):
        for call, given in everything():
            wanted = told(call(*given.values()))
            self.assertEqual(list(inspect.signature(call).parameters), list(given))
            for names in itertools.permutations(given):
                self.assertEqual(told(call(**{name: given[name] for name in names})), wanted, call)
                first, *rest = given
                self.assertEqual(told(call(given[first], **{name: given[name] for name in names if name in rest})), wanted)

    def test_lists_and_tuples(self):
        """Where a list is told a tuple may be passed, and the other way about, also inside."""
        def turned(thing):
            if isinstance(thing, (list, tuple)):
                parts = [turned(part) for part in thing]
                return parts if isinstance(thing, tuple) else tuple(parts)
            return {key: turned(part) for key, part in thing.items()} if isinstance(thing, dict) else thing
        for call, given in everything():
            wanted = told(call(**given))
            self.assertEqual(told(call(**{name: turned(part) for name, part in given.items()})), wanted, call)

    def test_what_is_passed_is_not_changed(self):
        for call, given in everything():
            kept = copy.deepcopy({name: part for name, part in given.items() if not isinstance(part, Say)
                                  and not callable(part)})
            before = told(call(**given))
            found = call(**given)
            for part in [part for name, part in given.items() if isinstance(part, list) and name in kept]:
                self.assertEqual(part, kept[[name for name in given if given[name] is part][0]])
            # What is changed behind has no effect.
            for part in given.values():
                spoil(part)
            self.assertEqual(told(found), before)

    def test_classes_are_listed_in_their_files(self):
        for call, _ in everything():
            if inspect.isclass(call) or inspect.isfunction(call) and "." not in call.__qualname__:
                self.assertTrue(call.__module__.startswith("deedmeanings."))
                self.assertIs(vars(inspect.getmodule(call))[call.__name__], call)


def spoil(thing):
    if isinstance(thing, (list, tuple)):
        for part in thing:
            spoil(part)
    if isinstance(thing, dict):
        for part in list(thing.values()):
            spoil(part)
        thing.clear()
    if isinstance(thing, list):
        thing.append("spoiled")


class Errors(unittest.TestCase):
    NONE = ["UnlikeBooks", "NothingToUndo", "BadText", "NotSure"]

    def kinds(self):
        return {name: kind for name, kind in vars(errors).items() if inspect.isclass(kind)}

    def test_no_error_is_another_one(self):
        kinds = self.kinds()
        self.assertEqual(len(kinds), 33)
        for name, kind in kinds.items():
            self.assertTrue(issubclass(kind, errors.DeedError) and issubclass(kind, ValueError))
            for other in kinds.values():
                if other not in (kind, errors.DeedError):
                    self.assertFalse(issubclass(kind, other))
            if name == "DeedError":
                self.assertEqual(kind.__bases__, (ValueError,))
                continue
            thing = [object()]
            if name in self.NONE:
                self.assertIsInstance(kind(), errors.DeedError)
                continue
            (parameter,) = [one for one in inspect.signature(kind).parameters if one != "self"]
            self.assertIs(getattr(kind(thing), parameter), thing)
            self.assertIs(getattr(kind(**{parameter: thing}), parameter), thing)

    def test_calls_that_raise_change_nothing(self):
        ledger = Ledger(D | E)
        ledger.propose("a", D)
        ledger.assume("b", (X, "e", X))
        costs = prices.Prices(BOOK, {"d": [(X, 2)], "e": []})
        system = systems.System(BOOK, {"p": [(D, "p"), (E, None)]})
        kept = [ledger.states(), ledger.promises(), ledger.flow(), costs.of((("x",), "d", ("y",))), system.least("p")]
        other = Flow.skip(Book([], ["d"]))
        for kind, call in ((errors.BadName, lambda: ledger.propose("a", D)), (errors.NoName, lambda: ledger.take("z")),
                           (errors.UnlikeBooks, lambda: ledger.propose("c", other)), (errors.NoName, lambda: ledger.drop("a")),
                           (errors.BadRow, lambda: costs.of(None)), (errors.UnlikeBooks, lambda: costs.least(other)),
                           (errors.NoName, lambda: system.least("q")), (errors.BadPurse, lambda: costs.paid(D, 0, 13)),
                           (errors.BadText, lambda: texts.read_flow(BOOK, "d;")), (errors.NoRow, lambda: ranking.index_of(D, 0)),
                           (errors.BadBar, lambda: barring.bars_shown(D, D, [0])), (errors.NothingToUndo, ledger.redo)):
            with self.assertRaises(kind):
                call()
            self.assertEqual([ledger.states(), ledger.promises(), ledger.flow(), costs.of((("x",), "d", ("y",))),
                              system.least("p")], kept)

    def test_new_objects_do_not_compare_as_others(self):
        costs, shares = prices.Prices(BOOK, {"d": [], "e": []}), chances.Chances(BOOK, {"d": [], "e": []})
        system = systems.System(BOOK, {"p": []})
        for one in (costs, shares, system):
            for other in (D, BOOK, X, None, 0, [], reader_of(D)):
                self.assertIs(one == other, False)
                self.assertIs(other == one, False)
                self.assertIs(one in D, False)


class MainFact(unittest.TestCase):
    def test_a_row_that_is_lacking_is_a_meaning(self):
        """[2]: p leads nowhere else than q in all meanings exactly if each row of p is one of q."""
        for _, plain, book, [(tree, p), (other, q)] in flow_cases(299, 80, 2):
            lacking = sorted(rows_of(tree, plain, 3) - rows_of(other, plain, 3), key=lambda row: (len(row), row))
            if lacking:
                self.assertEqual(unlike(p, q), lacking[0])
                meaning = Meaning.of_row(book, lacking[0])
                last = len(lacking[0]) // 2
                self.assertEqual(meaning.size, last + 1)
                self.assertIn((0, last), meaning.leads(p))
                self.assertNotIn((0, last), meaning.leads(q))


if __name__ == "__main__":
    unittest.main()
