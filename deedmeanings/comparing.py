"""Flows held against one another: first rows that one lacks, covers, and meanings that tell flows apart."""

from deedmeanings.flows import check_books
from deedmeanings.meanings import Meaning
from deedmeanings.names import is_integer, is_list
from deedmeanings.readers import reader_of


def unlike(p, q):
    """The first row of p that is no row of q, None if there is none."""
    check_books(p, q)
    return (p - q).first()


def cover(p, q):
    """The pairs of places to which the readers of p and q are led together, None if p is not within q."""
    check_books(p, q)
    if not p <= q:
        return None
    one = reader_of(p)
    other = reader_of(q)
    known = {(0, 0): True}
    queue = [(0, 0)]
    at = 0
    while at < len(queue):
        together = queue[at]
        at += 1
        for pair in pairs_behind(one.chart(), other.chart(), together):
            if pair not in known:
                known[pair] = True
                queue.append(pair)
    # Pairs are told by single numbers while they are put in order.
    size = len(other)
    return [divmod(code, size) for code in sorted([int(mine * size + yours) for mine, yours in queue])]


def is_cover(p, q, thing):
    """Whether any object is a list of pairs of places that shows that p is within q."""
    check_books(p, q)
    one = reader_of(p)
    other = reader_of(q)
    if not is_list(thing) or not all([is_pair(pair, len(one), len(other)) for pair in thing]):
        return False
    known = {(mine, yours): True for mine, yours in thing}
    if (0, 0) not in known:
        return False
    for mine, yours in known:
        if one.chart().finals[mine] & ~other.chart().finals[yours]:
            return False
        if not all([pair in known for pair in pairs_behind(one.chart(), other.chart(), (mine, yours))]):
            return False
    return True


def is_pair(thing, many, others):
    """Whether a thing is a pair of a place, of so many, and another one, of so many others."""
    if not is_list(thing) or len(thing) != 2:
        return False
    mine, yours = thing
    return is_integer(mine) and 0 <= mine < many and is_integer(yours) and 0 <= yours < others


def pairs_behind(one, other, pair):
    """The pairs to which the moves of one chart lead, with another chart beside it; -1 where it has no move."""
    mine, yours = pair
    return [(target, other.nexts[yours][symbol]) for symbol, target in enumerate(one.nexts[mine]) if target >= 0]


def parting(p, q):
    """A meaning and two states between which it leads by p, but not by q; None if p is within q."""
    row = unlike(p, q)
    if row is None:
        return None
    return Meaning.of_row(p.book, row), 0, len(row) // 2


def is_parting(p, q, thing):
    """Whether any object is a meaning and two states between which it leads by p, but not by q."""
    check_books(p, q)
    if not is_list(thing) or len(thing) != 3:
        return False
    meaning, first, last = thing
    if not isinstance(meaning, Meaning) or not meaning.book.is_like(p.book) or not meaning.book <= p.book:
        return False
    if not is_pair((first, last), meaning.size, meaning.size):
        return False
    return last in meaning.ends(p, first) and last not in meaning.ends(q, first)
