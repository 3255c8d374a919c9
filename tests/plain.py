"""A second way of telling what flows are: sets of all rows up to a length, and trees that say what is meant.

Nothing here uses the machines of the package. A book is a triple (tests, deeds, lets), lets being a dict
from (truths, deed) to the set of the truths that may come behind. A tree is a tuple of a word and what
belongs to it; `flow_of` makes a flow of the package of a tree, `rows_of` all of its rows up to a length.
"""

import functools
import itertools
import random

from deedmeanings.books import Book
from deedmeanings.flows import Flow, either, whilst
from deedmeanings.says import Say


def all_truths(tests):
    """All ascending tuples of tests, ascending."""
    tests = sorted(tests)
    return sorted(some for size in range(len(tests) + 1) for some in itertools.combinations(tests, size))


@functools.lru_cache(maxsize=None)
def one_choice(tests, truths):
    say = Say.yes()
    for name in tests:
        say = say & (Say.test(name) if name in truths else ~Say.test(name))
    return say


def exactly(tests, truths):
    """The say, put together of tests, that is true at just these truths."""
    return one_choice(tuple(sorted(tests)), tuple(sorted(truths)))


@functools.lru_cache(maxsize=None)
def one_say(tests, many):
    say = Say.no()
    for truths in many:
        say = say | one_choice(tests, truths)
    return say


def say_of(tests, many):
    """The say that is true at just these many truths."""
    return one_say(tuple(sorted(tests)), tuple(sorted(many)))


def book_of(plain):
    """The book of the package that lets just what a plain book lets."""
    tests, deeds, lets = plain
    promises = [(exactly(tests, truths), deed, say_of(tests, behind)) for (truths, deed), behind in lets.items()]
    return Book(tests, deeds, promises)


def random_book(chance, tests, deeds, density=0.6):
    """A plain book with random steps."""
    every = all_truths(tests)
    lets = {}
    for truths in every:
        for deed in deeds:
            lets[truths, deed] = {behind for behind in every if chance.random() < density}
    return tests, deeds, lets


def free_book(tests, deeds):
    """A plain book that lets all steps."""
    every = all_truths(tests)
    return tests, deeds, {(truths, deed): set(every) for truths in every for deed in deeds}


def turned_book(plain):
    tests, deeds, lets = plain
    every = all_truths(tests)
    return tests, deeds, {(last, deed): {first for first in every if last in lets[first, deed]}
                          for last in every for deed in deeds}


def every_row(plain, length):
    """All rows of a plain book with exactly so many deeds."""
    tests, deeds, lets = plain
    rows = [(truths,) for truths in all_truths(tests)]
    for _ in range(length):
        rows = [row + (deed, behind) for row in rows for deed in deeds for behind in lets[row[-1], deed]]
    return rows


def size(row):
    return len(row) // 2


def join_all(first, second, limit):
    """All rows that are joined of a row of one set and a row of another one, up to a length."""
    by_first = {}
    for row in second:
        by_first.setdefault(row[0], []).append(row)
    return {row + more[1:] for row in first for more in by_first.get(row[-1], ())
            if size(row) + size(more) <= limit}


def often_of(rows, plain, limit):
    found = set(every_row(plain, 0))
    fresh = found
    while fresh:
        fresh = join_all(fresh, rows, limit) - found
        found |= fresh
    return found


def put_in(plain, rows, deed, part, limit):
    """All rows that come of some rows by putting rows of a part for the steps of a deed."""
    by_ends = {}
    for row in part:
        by_ends.setdefault((row[0], row[-1]), []).append(row)
    found = set()
    for row in rows:
        begun = {row[:1]}
        for at in range(0, len(row) - 1, 2):
            step = row[at:at + 3]
            choices = by_ends.get((step[0], step[2]), []) if step[1] == deed else [step]
            begun = {some + choice[1:] for some in begun for choice in choices if size(some + choice[1:]) <= limit}
        found |= begun
    return found


SLACK = 4


def rows_of(tree, plain, limit):
    """The set of all rows of a tree with at most so many deeds.

    Where shorter rows may come of longer ones (begun, put), these are looked through up to a length
    that is greater by SLACK; the trees that are passed must not need longer ones.
    """
    word, *rest = tree
    if word == "deed":
        return {row for row in every_row(plain, 1) if row[1] == rest[0]} if limit else set()
    if word == "check":
        return {row for row in every_row(plain, 0) if row[0] in rest[0]}
    if word == "skip":
        return set(every_row(plain, 0))
    if word == "stop":
        return set()
    if word == "full":
        return {row for length in range(limit + 1) for row in every_row(plain, length)}
    if word == "~":
        return rows_of(("full",), plain, limit) - rows_of(rest[0], plain, limit)
    if word in ("|", "&", "-"):
        one, other = (rows_of(part, plain, limit) for part in rest)
        return one | other if word == "|" else one & other if word == "&" else one - other
    if word == ">>":
        return join_all(rows_of(rest[0], plain, limit), rows_of(rest[1], plain, limit), limit)
    if word == "**":
        found = set(every_row(plain, 0))
        for _ in range(rest[1]):
            found = join_all(found, rows_of(rest[0], plain, limit), limit)
        return found
    if word == "often":
        return often_of(rows_of(rest[0], plain, limit), plain, limit)
    if word == "begun":
        return {row[:2 * length + 1] for row in rows_of(rest[0], plain, limit + SLACK)
                for length in range(min(limit, size(row)) + 1)}
    if word == "back":
        # Of a tree read backwards, told of the same book: turned twice, once inside.
        return {row[::-1] for row in rows_of(rest[0], turned_book(plain), limit)}
    if word == "put":
        return put_in(plain, rows_of(rest[0], plain, limit + SLACK), rest[1], rows_of(rest[2], plain, limit), limit)
    if word == "either":
        held = {row for row in rows_of(rest[1], plain, limit) if row[0] in rest[0]}
        return held | {row for row in rows_of(rest[2], plain, limit) if row[0] not in rest[0]}
    if word == "whilst":
        loop = {row for row in rows_of(rest[1], plain, limit) if row[0] in rest[0]}
        return {row for row in often_of(loop, plain, limit) if row[-1] not in rest[0]}
    raise AssertionError(word)


def flow_of(tree, plain, book):
    """The flow of the package that a tree tells."""
    word, *rest = tree
    if word == "deed":
        return Flow.deed(book, rest[0])
    if word == "check":
        return Flow.check(book, say_of(plain[0], rest[0]))
    if word in ("skip", "stop", "full"):
        return {"skip": Flow.skip, "stop": Flow.stop, "full": Flow.full}[word](book)
    if word == "**":
        return flow_of(rest[0], plain, book) ** rest[1]
    if word == "put":
        return flow_of(rest[0], plain, book).put(rest[1], flow_of(rest[2], plain, book))
    if word == "back":
        other = turned_book(plain)
        return flow_of(rest[0], other, book_of(other)).turned()
    if word in ("either", "whilst"):
        say = say_of(plain[0], rest[0])
        parts = [flow_of(part, plain, book) for part in rest[1:]]
        return {"either": either, "whilst": whilst}[word](say, *parts)
    parts = [flow_of(part, plain, book) for part in rest]
    if word == "often":
        return parts[0].often()
    if word == "begun":
        return parts[0].begun()
    if word == "~":
        return ~parts[0]
    one, other = parts
    return {"|": lambda: one | other, "&": lambda: one & other, "-": lambda: one - other,
            ">>": lambda: one >> other}[word]()


BINARY = (">>", ">>", ">>", "|", "|", "&", "-")


def random_tree(chance, plain, deeds, words=BINARY, others=("often", "~", "back", "either", "whilst")):
    """A random tree with so many deeds, of tests and deeds of a plain book."""
    tests, names, _ = plain
    every = all_truths(tests)
    some = tuple(truths for truths in every if chance.random() < 0.5)
    if deeds == 0:
        return chance.choice([("check", some), ("check", some), ("skip",), ("stop",)])
    if deeds == 1 and chance.random() < 0.5:
        return ("deed", chance.choice(names))
    if chance.random() < 0.35 and others:
        word = chance.choice(others)
        if word == "either":
            left = chance.randrange(deeds + 1)
            return (word, some, random_tree(chance, plain, left, words, others),
                    random_tree(chance, plain, deeds - left, words, others))
        inner = random_tree(chance, plain, deeds, words, others)
        return (word, some, inner) if word == "whilst" else (word, inner)
    left = chance.randrange(deeds + 1)
    return (chance.choice(words), random_tree(chance, plain, left, words, others),
            random_tree(chance, plain, deeds - left, words, others))


def chances(seed):
    """A source of chance that is the same each time."""
    return random.Random(seed)
