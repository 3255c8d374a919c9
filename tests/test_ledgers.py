"""[35] to [37]: ledgers, against an independent one that keeps a copy of all that it was."""

import unittest

from deedmeanings.books import Book
from deedmeanings.errors import (BadName, BadPromise, DeedError, Leaned, NoName, NothingToUndo, Refused,
                                 UnlikeBooks)
from deedmeanings.flows import Flow, whilst
from deedmeanings.ledgers import Ledger
from deedmeanings.says import Say

from tests.plain import book_of, chances, flow_of, random_book, random_tree
from tests.test_promising import random_promises
from tests.things import SHAPES, odd_things

A, B = Say.test("a"), Say.test("b")


class Model:
    """A ledger told the plain way: what it is now is a dict, and all earlier and later ones are kept."""

    def __init__(self, flow):
        self.book = flow.book
        self.now = {"flow": flow, "promises": {}, "proposals": {}, "taken": []}
        self.past, self.future = [], []

    def strict(self, promises):
        return self.book.more([promises[name] for name in sorted(promises)])

    def states(self):
        strict = self.strict(self.now["promises"])
        flow = self.now["flow"].under(strict)
        found = {}
        for name, proposal in sorted(self.now["proposals"].items()):
            one = proposal.under(strict)
            found[name] = "same" if one == flow else "less" if one <= flow else "more" if flow <= one else "other"
        return found

    def done(self, **changes):
        before = self.states()
        self.past.append(self.now)
        self.future = []
        self.now = dict(self.now, **changes)
        return self.news(before)

    def news(self, before):
        return [(name, state) for name, state in self.states().items() if before.get(name) != state]

    def assume(self, name, promise):
        if name in self.now["promises"]:
            raise BadName(name)
        return self.done(promises=dict(self.now["promises"], **{name: promise}))

    def drop(self, name):
        if name not in self.now["promises"]:
            raise NoName(name)
        others = {key: promise for key, promise in self.now["promises"].items() if key != name}
        strict = self.strict(others)
        if any(not taken.under(strict) <= ahead.under(strict) for ahead, taken in self.now["taken"]):
            raise Leaned(name)
        return self.done(promises=others)

    def propose(self, name, flow):
        if name in self.now["proposals"]:
            raise BadName(name)
        return self.done(proposals=dict(self.now["proposals"], **{name: flow}))

    def withdraw(self, name, **more):
        if name not in self.now["proposals"]:
            raise NoName(name)
        return self.done(proposals={key: flow for key, flow in self.now["proposals"].items() if key != name}, **more)

    def take(self, name):
        if name not in self.now["proposals"]:
            raise NoName(name)
        flow, ahead = self.now["proposals"][name], self.now["flow"]
        row = (flow - ahead).under(self.strict(self.now["promises"])).first()
        if row is not None:
            raise Refused(row)
        return self.withdraw(name, flow=flow, taken=self.now["taken"] + [(ahead, flow)])

    def turn(self, one, other):
        if not one:
            raise NothingToUndo()
        before = self.states()
        other.append(self.now)
        self.now = one.pop()
        return self.news(before)

    def undo(self):
        return self.turn(self.past, self.future)

    def redo(self):
        return self.turn(self.future, self.past)

    def trial(self, work):
        kept = self.now, list(self.past), list(self.future)
        try:
            return work(self)
        finally:
            self.now, self.past, self.future = kept


def told(call):
    """What a call returns, or its error, with what it was made with."""
    try:
        return call()
    except DeedError as error:
        return error.__class__.__name__, vars(error)


def random_deed(chance, flows, promises, depth=0):
    """A random deed: a function that does it on a ledger, be it one or the other kind."""
    word = chance.choice(["assume", "drop", "propose", "propose", "withdraw", "take", "take", "undo", "undo", "redo",
                          "redo", "trial", "lean", "lean"])
    name = chance.choice(["p", "q", "r", "s"])
    if word in ("undo", "redo"):
        return lambda ledger: getattr(ledger, word)()
    if word == "trial":
        if depth > 2:
            return lambda ledger: ledger.trial(lambda some: 7)
        inner = [random_deed(chance, flows, promises, depth + 1) for _ in range(chance.randrange(5))]
        leaves = chance.random() < 0.4
        return lambda ledger: ledger.trial(lambda some: trial_work(some, inner, leaves))
    if word == "lean":
        # A promise and a flow that is within the first one with this promise alone.
        at = chance.randrange(2)
        return lambda ledger: [told(lambda: deed(ledger)) for deed in (
            lambda ledger: ledger.assume(name, promises[at]), lambda ledger: ledger.propose(name, flows[at - 2]),
            lambda ledger: ledger.take(name), lambda ledger: ledger.drop(name))]
    if word == "assume":
        promise = chance.choice(promises)
        return lambda ledger: ledger.assume(name, promise)
    if word == "propose":
        flow = chance.choice(flows)
        return lambda ledger: ledger.propose(name, flow)
    return lambda ledger: getattr(ledger, word)(name)


def trial_work(ledger, inner, leaves):
    """Does deeds; if they leave, the first error of one of them leaves the trial, too."""
    if leaves:
        return [deed(ledger) for deed in inner]
    return [told(lambda: deed(ledger)) for deed in inner]


class Drawn(unittest.TestCase):
    def check(self, ledger, model):
        self.assertEqual(ledger.flow(), model.now["flow"])
        self.assertEqual(ledger.flow().book, model.book)
        self.assertEqual(ledger.book_now(), model.strict(model.now["promises"]))
        self.assertEqual(ledger.promises(), model.now["promises"])
        self.assertEqual(list(ledger.promises()), sorted(model.now["promises"]))
        self.assertEqual(ledger.states(), model.states())
        self.assertEqual(list(ledger.states()), sorted(model.now["proposals"]))
        self.assertEqual(len(ledger), len(model.now["proposals"]))
        for name in ("p", "q", "r", "s", "t"):
            self.assertIs(name in ledger, name in model.now["proposals"])
            if name in ledger:
                self.assertEqual(ledger.state(name), model.states()[name])
        # Under the book now the flow is within each flow ahead of it.
        strict = ledger.book_now()
        for ahead, _ in model.now["taken"]:
            self.assertTrue(ledger.flow().under(strict) <= ahead.under(strict))

    def test_drawn_deeds(self):
        seen = {}
        for seed in range(60):
            chance = chances(seed)
            plain = random_book(chance, *chance.choice(SHAPES), 0.9)
            book = book_of(plain)
            flows = [flow_of(random_tree(chance, plain, 1 + chance.randrange(3)), plain, book) for _ in range(3)]
            flows += [flows[0] & flows[1], flows[0] | flows[1], flows[0] - flows[2]]
            promises = random_promises(chance, plain, 4)
            for promise in promises[:2]:
                step = Flow.deed(book, promise[1])
                flows.append(flows[0] | Flow.check(book, promise[0]) >> step >> Flow.check(book, ~promise[2]))
            ledger, model = Ledger(flows[0]), Model(flows[0])
            for _ in range(40):
                deed = random_deed(chance, flows, promises)
                mine, wanted = told(lambda: deed(ledger)), told(lambda: deed(model))
                self.assertEqual(mine, wanted)
                for one in [mine] + list(mine if isinstance(mine, list) else []):
                    word = one[0] if isinstance(one, tuple) else "news"
                    seen[word] = seen.get(word, 0) + 1
                self.check(ledger, model)
        for word in ("news", "BadName", "NoName", "NothingToUndo", "Refused", "Leaned"):
            self.assertGreater(seen.get(word, 0), 10, seen)

    def test_by_turns(self):
        """Two ledgers that are asked by turns tell the same as each of them alone."""
        chance = chances(7)
        plain = random_book(chance, ("x",), ("d", "e"), 0.9)
        book = book_of(plain)
        flows = [flow_of(random_tree(chance, plain, 2), plain, book) for _ in range(4)]
        promises = random_promises(chance, plain, 4)
        plans = [[random_deed(chance, flows, promises) for _ in range(30)] for _ in range(2)]
        alone = []
        for plan in plans:
            ledger = Ledger(flows[0])
            alone.append([told(lambda: deed(ledger)) for deed in plan])
        both = [Ledger(flows[0]), Ledger(flows[0])]
        turns = [[told(lambda: plan[at](ledger)) for plan, ledger in zip(plans, both)] for at in range(30)]
        self.assertEqual([list(one) for one in zip(*turns)], alone)


class ByHand(unittest.TestCase):
    def setUp(self):
        self.book = Book(["a", "b"], ["d", "e"])
        self.d, self.e = Flow.deed(self.book, "d"), Flow.deed(self.book, "e")
        self.loop = whilst(A, self.d)
        self.once = Flow.check(self.book, A) >> self.d | Flow.check(self.book, ~A)
        self.promise = (A, "d", ~A)
        self.ledger = Ledger(self.loop)

    def test_the_beginning(self):
        ledger = Ledger(flow=self.loop)
        self.assertEqual(ledger.flow(), self.loop)
        self.assertEqual(ledger.book_now(), self.book)
        self.assertEqual((ledger.promises(), ledger.states(), len(ledger)), ({}, {}, 0))
        self.assertRaises(NothingToUndo, ledger.undo)
        self.assertRaises(NothingToUndo, ledger.redo)

    def test_a_rewriting(self):
        ledger = self.ledger
        self.assertEqual(ledger.propose(flow=self.once, name="once"), [("once", "other")])
        self.assertEqual(ledger.propose("loop", self.loop), [("loop", "same")])
        with self.assertRaises(Refused) as caught:
            ledger.take("once")
        self.assertEqual(caught.exception.row, (("a",), "d", ("a",)))
        self.assertEqual(ledger.assume(promise=list(self.promise), name="calm"), [("once", "same")])
        self.assertEqual(ledger.promises(), {"calm": self.promise})
        self.assertEqual(ledger.book_now(), self.book.more([self.promise]))
        self.assertEqual(ledger.take(name="once"), [])
        self.assertEqual(ledger.flow(), self.once)
        self.assertEqual(ledger.states(), {"loop": "same"})
        with self.assertRaises(Leaned) as caught:
            ledger.drop("calm")
        self.assertEqual(caught.exception.name, "calm")
        # Another promise from which it follows may stand in its place.
        self.assertEqual(ledger.assume("more", (Say.yes(), "d", ~A)), [])
        self.assertEqual(ledger.drop(name="calm"), [])
        self.assertRaises(Leaned, ledger.drop, "more")
        self.assertEqual(ledger.withdraw(name="loop"), [])
        self.assertEqual(ledger.undo(), [("loop", "same")])
        self.assertEqual(ledger.state(name="loop"), "same")
        self.assertEqual([ledger.undo() for _ in range(3)], [[], [], [("once", "same")]])
        self.assertEqual(ledger.undo(), [("once", "other")])
        self.assertEqual(ledger.flow(), self.loop)
        self.assertEqual(ledger.redo(), [("once", "same")])
        self.assertEqual(ledger.drop("calm"), [("once", "other")])
        self.assertRaises(NothingToUndo, ledger.redo)

    def test_states(self):
        stop, full = Flow.stop(self.book), Flow.full(self.book)
        for name, flow in (("z", stop), ("b", full), ("m", self.e), ("c", self.loop)):
            self.ledger.propose(name, flow)
        self.assertEqual(list(self.ledger.states().items()), [("b", "more"), ("c", "same"), ("m", "other"),
                                                              ("z", "less")])
        self.assertEqual(self.ledger.take("z"), [("b", "more"), ("c", "more"), ("m", "more")][1:])
        self.ledger.states().clear()
        self.ledger.promises()["x"] = 0
        self.assertEqual((len(self.ledger), self.ledger.promises()), (3, {}))

    def test_names(self):
        ledger = self.ledger
        ledger.propose("p", self.loop)
        ledger.assume("q", self.promise)
        for thing in odd_things() + ["q", "P", "a b"]:
            self.assertIs(thing in ledger, False)
            for call in (ledger.state, ledger.withdraw, ledger.take):
                with self.assertRaises(NoName) as caught:
                    call(thing)
                self.assertIs(caught.exception.name, thing)
        for thing in odd_things() + ["p"]:
            with self.assertRaises(NoName) as caught:
                ledger.drop(thing)
            self.assertIs(caught.exception.name, thing)
        self.assertIs("p" in ledger, True)
        for thing in [thing for thing in odd_things() if thing != "zz"] + ["", "P", "abcdefghi"]:
            for call in (lambda: ledger.assume(thing, None), lambda: ledger.propose(thing, Flow.stop(Book([], ["d"])))):
                with self.assertRaises(BadName) as caught:
                    call()
                self.assertIs(caught.exception.name, thing)
        self.assertRaises(BadName, ledger.assume, "q", None)
        self.assertRaises(BadName, ledger.propose, "p", Flow.stop(Book([], ["d"])))
        # A name may stand for a promise and for a proposal.
        ledger.assume("p", self.promise)
        ledger.propose("q", self.loop)
        self.assertEqual((list(ledger.promises()), list(ledger.states())), (["p", "q"], ["p", "q"]))

    def test_other_errors(self):
        ledger = self.ledger
        for thing in odd_things() + [(A, "d"), (A, "f", A), (A, "d", Say.test("z")), (A, "a", A), ("a", "d", A)]:
            with self.assertRaises(BadPromise) as caught:
                ledger.assume("p", thing)
            self.assertEqual(caught.exception.index, 0)
        ledger.assume("p", self.promise)
        for book in (ledger.book_now(), Book(["a", "b"], ["d"]), Book(["a"], ["d", "e"])):
            self.assertRaises(UnlikeBooks, ledger.propose, "p", Flow.stop(book))
        self.assertEqual(ledger.propose("p", Flow.stop(Book(("b", "a"), ("e", "d")))), [("p", "less")])
        self.assertEqual(len(ledger), 1)

    def test_what_raises_is_no_deed(self):
        ledger = self.ledger
        ledger.propose("p", self.once)
        ledger.undo()
        for call in (lambda: ledger.take("p"), lambda: ledger.drop("p"), lambda: ledger.assume("", None),
                     lambda: ledger.assume("p", None), lambda: ledger.propose("p", Flow.stop(Book([], ["d"]))),
                     lambda: ledger.withdraw("p"), ledger.undo):
            self.assertRaises(DeedError, call)
        self.assertEqual(ledger.redo(), [("p", "other")])
        self.assertRaises(Refused, ledger.take, "p")
        self.assertEqual(ledger.undo(), [])
        self.assertEqual(len(ledger), 0)

    def test_promises_are_copied(self):
        promise = [A, "d", ~A]
        self.ledger.assume("p", promise)
        promise[2] = A
        self.assertEqual(self.ledger.promises(), {"p": (A, "d", ~A)})
        self.assertIsInstance(self.ledger.promises()["p"], tuple)

    def test_trials(self):
        ledger = self.ledger
        ledger.propose("p", self.once)
        ledger.assume("q", self.promise)
        ledger.undo()
        thing = object()

        def work(some):
            self.assertIs(some, ledger)
            some.redo()
            some.take("p")
            self.assertEqual(some.flow(), self.once)
            some.trial(lambda inner: [inner.undo(), inner.undo(), inner.undo()])
            self.assertEqual(some.flow(), self.once)
            some.propose("r", self.loop)
            return thing

        for call in (lambda: ledger.trial(work), lambda: ledger.trial(work=work)):
            self.assertIs(call(), thing)
            self.assertEqual((ledger.flow(), ledger.states(), ledger.promises()), (self.loop, {"p": "other"}, {}))
        self.assertEqual(ledger.redo(), [("p", "same")])
        self.assertEqual(ledger.undo(), [("p", "other")])

    def test_errors_that_leave_a_trial(self):
        ledger = self.ledger
        ledger.propose("p", self.once)

        class Away(Exception):
            pass

        error = Away("x")

        def inner(some):
            some.withdraw("p")
            some.propose("r", self.loop)
            raise error

        def outer(some):
            some.assume("q", self.promise)
            some.trial(inner)

        for work in (inner, outer):
            with self.assertRaises(Away) as caught:
                ledger.trial(work)
            self.assertIs(caught.exception, error)
            self.assertEqual((ledger.states(), ledger.promises()), ({"p": "other"}, {}))
        self.assertRaises(Refused, ledger.trial, lambda some: some.take("p"))
        self.assertRaises(NothingToUndo, ledger.redo)
        self.assertEqual(ledger.undo(), [])
        self.assertRaises(NothingToUndo, ledger.undo)
        self.assertRaises(NothingToUndo, ledger.trial, lambda some: [some.redo(), some.redo()])
        self.assertEqual(ledger.redo(), [("p", "other")])


if __name__ == "__main__":
    unittest.main()
