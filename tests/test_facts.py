"""[19]: facts about flows, for random flows of small books."""

import unittest

from deedmeanings.flows import Flow

from tests.plain import all_truths, book_of, chances, flow_of, random_book, random_tree, say_of

SHAPES = [((), ("d", "e")), (("x",), ("d",)), (("x",), ("d", "e")), (("x", "y"), ("d",)), (("x", "y"), ("d", "e")),
          (("x", "y", "z"), ("d", "e", "f"))]


def random_says(chance, tests, many):
    return [say_of(tests, [truths for truths in all_truths(tests) if chance.random() < 0.5]) for _ in range(many)]


class Facts(unittest.TestCase):
    def cases(self, seed, many, flows, deeds=3):
        chance = chances(seed)
        for _ in range(many):
            tests, names = chance.choice(SHAPES)
            plain = random_book(chance, tests, names, chance.choice([0.4, 0.8, 1.0]))
            book = book_of(plain)
            made = [flow_of(random_tree(chance, plain, chance.randrange(deeds + 1)), plain, book)
                    for _ in range(flows)]
            yield book, random_says(chance, tests, 2), made

    def test_often_is_the_least(self):
        for book, _, (p, x) in self.cases(41, 80, 2):
            skip = Flow.skip(book)
            self.assertTrue(skip | p >> p.often() <= p.often())
            self.assertEqual(skip | p >> p.often(), p.often())
            # The flow that is made of any x so that it holds together with p keeps p.often() below it.
            closed = (x | skip | p).often()
            self.assertTrue(skip | p >> closed <= closed)
            self.assertTrue(p.often() <= closed)
            if skip | p >> x <= x:
                self.assertTrue(p.often() <= x)

    def test_checks(self):
        for book, (a, b), _ in self.cases(42, 60, 0):
            one, other = Flow.check(book, a), Flow.check(book, b)
            self.assertEqual(one >> other, Flow.check(book, a & b))
            self.assertEqual(one | other, Flow.check(book, a | b))
            self.assertEqual(one & other, Flow.check(book, a & b))
            self.assertEqual(one - other, Flow.check(book, a & ~b))

    def test_often_of_choices_and_sequences(self):
        for _, _, (p, q) in self.cases(43, 80, 2):
            self.assertEqual((p | q).often(), p.often() >> (q >> p.often()).often())
            self.assertEqual((p >> q).often() >> p, p >> (q >> p).often())

    def test_put_grows_with_the_flow(self):
        for book, _, (p, r, part) in self.cases(44, 60, 3):
            q = p | r
            for deed in book.deeds():
                self.assertTrue(p.put(deed, part) <= q.put(deed, part))
                self.assertEqual(q.put(deed, part), p.put(deed, part) | r.put(deed, part))
                self.assertTrue(p.put(deed, part) <= p.put(deed, part | r))
                self.assertEqual(p.put(deed, Flow.deed(book, deed)), p)

    def test_putting_together(self):
        for book, _, (p, q, r) in self.cases(45, 60, 3):
            self.assertEqual(p >> (q >> r), (p >> q) >> r)
            self.assertEqual(p >> (q | r), p >> q | p >> r)
            self.assertEqual(~(p | q), ~p & ~q)
            self.assertEqual(p - q, p & ~q)
            self.assertEqual((p >> q).turned(), q.turned() >> p.turned())
            self.assertEqual((p | q).begun(), p.begun() | q.begun())
            self.assertEqual(p.begun().begun(), p.begun())
            self.assertTrue(p <= p.begun())
            self.assertEqual(p.begun(), p | (p.begun() - p))
            self.assertIs(p <= q, not p - q)
            self.assertIs(p == q, not (p - q | q - p))

    def test_below_as_differences_tell(self):
        for _, _, (p, q) in self.cases(47, 250, 2, 4):
            for one, other in ((p, q), (q, p), (p, p | q), (p & q, q), (p - q, p), (p | q, q.often()),
                               (p.often(), (p | q).often()), (p, p >> q), (p.begun(), q.often())):
                self.assertIs(one <= other, not one - other)
                self.assertIs(one == other, not one - other and not other - one)

    def test_under_a_stricter_book(self):
        for book, (a, b), (p, q) in self.cases(46, 60, 2):
            for deed in book.deeds():
                strict = book.more([(a, deed, b)])
                self.assertEqual((p >> q).under(strict), p.under(strict) >> q.under(strict))
                self.assertEqual((~p).under(strict), ~p.under(strict))
                self.assertEqual(p.often().under(strict), p.under(strict).often())


if __name__ == "__main__":
    unittest.main()
