"""How charts are made of machines: in whatever way, they take the same rows, and are trimmed."""

import unittest

from deedmeanings.charts import chart_edges, goes_on_for_ever, has_rows, is_within, leaves_no_choice
from deedmeanings.counting import counted, layers_of_counts
from deedmeanings.deciding import decided, fitted, shortened
from deedmeanings.machines import (backwards, beginnings, come_masks, joined, live_masks, repeated, shared, stand_ins,
                                   trimmed)
from deedmeanings.names import members
from deedmeanings.putting import put_in
from deedmeanings.readers import least_chart
from deedmeanings.spots import free_spots

from tests.plain import book_of, chances, flow_of, random_book, random_tree

SHAPES = [((), ("d", "e")), (("x",), ("d", "e")), (("x", "y"), ("d",)), (("x", "y"), ("d", "e")),
          (("x", "y", "z"), ("d", "e", "f"))]


def machines_of(seed, many):
    """For each of so many random machines, not yet decided, itself and the steps of its book."""
    chance = chances(seed)
    for _ in range(many):
        plain = random_book(chance, *chance.choice(SHAPES), chance.choice([0.2, 0.5, 0.8, 1.0]))
        book = book_of(plain)
        one, other = [flow_of(random_tree(chance, plain, 1 + chance.randrange(4)), plain, book).machine()
                      for _ in range(2)]
        for machine, steps in ((put_in(one, 0, other, book.steps()), book.steps()), (joined(one, other), book.steps()),
                               (repeated(one), book.steps()), (beginnings(other), book.steps()),
                               (shared(one, other), book.steps()), (backwards(one), book.turned().steps())):
            yield trimmed(machine, steps), steps


def counts(chart, steps):
    spots = free_spots(chart, steps)
    layers = layers_of_counts(spots, 7)
    return [counted(spots, layers[length]) for length in (0, 1, 2, 7)]


class Deciding(unittest.TestCase):
    def check_trimmed(self, chart, steps):
        """Each place, move and end is made use of by some row of the book."""
        edges = chart_edges(chart, steps)
        come = come_masks((1 << (len(steps) // chart.width)) - 1, edges)
        live = live_masks(chart.finals, edges)
        self.assertTrue(all(come))
        for place, row in enumerate(chart.nexts):
            self.assertEqual(chart.finals[place] & ~come[place], 0)
            for symbol, target in enumerate(row):
                if target >= 0:
                    self.assertTrue(come[place] >> (symbol // chart.width) & 1)
                    self.assertTrue(live[target] & steps[symbol])

    def test_the_same_rows(self):
        fewer = 0
        for machine, steps in machines_of(121, 120):
            sets = decided(machine, steps, [0] * len(machine.finals), None)
            many = len(sets.finals)
            self.assertIsNone(decided(machine, steps, [0] * len(machine.finals), many - 1))
            self.assertEqual(decided(machine, steps, [0] * len(machine.finals), many).nexts, sets.nexts)
            less = decided(machine, steps, stand_ins(machine), None)
            first = shortened(sets)
            self.assertLessEqual(len(first.finals), len(sets.finals))
            self.assertLessEqual(len(fitted(first, steps).finals), len(first.finals))
            fewer += len(less.finals) < len(sets.finals) or len(fitted(first, steps).finals) < len(first.finals)
            for chart in (first, less, fitted(first, steps), fitted(shortened(less), steps), fitted(sets, steps)):
                self.check_trimmed(chart, steps)
                self.assertTrue(is_within(chart, sets, steps) and is_within(sets, chart, steps))
                self.assertEqual(counts(chart, steps), counts(sets, steps))
                self.assertEqual(has_rows(chart), has_rows(sets))
                self.assertEqual(leaves_no_choice(chart), leaves_no_choice(sets))
                self.assertEqual(goes_on_for_ever(chart, steps), goes_on_for_ever(sets, steps))
        self.assertGreater(fewer, 50)

    def test_the_same_readers(self):
        for machine, steps in machines_of(122, 60):
            sets = decided(machine, steps, [0] * len(machine.finals), None)
            wanted, ways = least_chart(sets, steps)
            for chart in (shortened(sets), fitted(sets, steps), fitted(shortened(sets), steps)):
                found, others = least_chart(chart, steps)
                self.assertEqual((found.finals, found.nexts, others), (wanted.finals, wanted.nexts, ways))

    def test_what_stands_in(self):
        found = 0
        for machine, _ in machines_of(123, 60):
            others = stand_ins(machine)
            for place, mask in enumerate(others):
                self.assertEqual(mask >> place & 1, 1)
                found += mask != 1 << place
                for other in members(mask):
                    self.assertEqual(machine.finals[place] & ~machine.finals[other], 0)
                    for mine, yours in zip(machine.moves[place], machine.moves[other]):
                        for target in members(mine):
                            self.assertTrue(others[target] & yours)
        self.assertGreater(found, 50)


if __name__ == "__main__":
    unittest.main()
