"""Objects of all kinds, for the wrong inputs of tests, and small cases that several tests share."""

from deedmeanings.books import Book
from deedmeanings.flows import Flow
from deedmeanings.meanings import Meaning
from deedmeanings.readers import reader_of
from deedmeanings.says import Say

from tests.plain import book_of, chances, flow_of, random_book, random_tree

SHAPES = [((), ("d", "e")), (("x",), ("d",)), (("x",), ("d", "e")), (("x", "y"), ("d",)), (("x", "y"), ("d", "e"))]


def odd_things():
    """Objects of all kinds, none of which is a row, a truths list, a deed, a state or a list of pairs."""
    book = Book(["x"], ["d"])
    flow = Flow.skip(book)
    return [None, True, False, -1, 10 ** 30, "", "zz", "a b", "x" * 9, {}, {"x": 1}, {0: 0}, [None], [[None]], ("zz",),
            [1, "d"], [[], []], [()], [{}], (((),),), Say.yes(), Say.test("x"), book, flow, reader_of(flow), [flow],
            Meaning(book, 1, {"x": []}, {"d": []}), (flow, 0, 0), [True, 0], [(0, True)], [("0", 0)], {(0, 0): 0},
            [0, 0], [(0,)], [(0, 0, 0)], ((0, -1),), ValueError("x")]


def flow_cases(seed, many, flows, deeds=3, shapes=SHAPES, **words):
    """For each of so many random plain books: chance, the plain book, the book, and pairs of a tree and its flow."""
    chance = chances(seed)
    for _ in range(many):
        tests, names = chance.choice(shapes)
        plain = random_book(chance, tests, names, chance.choice([0.4, 0.7, 0.9, 1.0]))
        book = book_of(plain)
        trees = [random_tree(chance, plain, chance.randrange(deeds + 1), **words) for _ in range(flows)]
        yield chance, plain, book, [(tree, flow_of(tree, plain, book)) for tree in trees]
