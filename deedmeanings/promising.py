"""Which promises are needed so that each row of one flow is a row of another one."""

from deedmeanings.books import check_promises
from deedmeanings.charts import is_within
from deedmeanings.choices import all_choices, greatest_left, least_choices
from deedmeanings.flows import check_books


def enough(p, q, promises):
    """The least sets of places of promises with which each row of p is a row of q."""
    return least_choices(enough_choices(p, q, promises))


def wanting(p, q, promises):
    """The greatest sets of places of promises with which not each row of p is a row of q."""
    choices = enough_choices(p, q, promises)
    return greatest_left(len(promises), choices)


def shown(p, q, promises):
    """For each of the greatest sets that are not enough the first row of p that is let and is no row of q."""
    choices = wanting(p, q, promises)
    rest = p - q
    return [rest.under(p.book.more([promises[place] for place in some])).first() for some in choices]


def enough_choices(p, q, promises):
    """All sets of places of promises, in order, with which each row of p is a row of q."""
    check_books(p, q)
    check_promises(p.book.tests(), p.book.deeds(), promises)
    singles = [p.book.more([promise]).steps() for promise in promises]
    return [some for some in all_choices(len(promises))
            if is_within(p.chart(), q.chart(), steps_with(p.book, [singles[place] for place in some]))]


def steps_with(book, stricter):
    """The steps of a book that each of some stricter books, told by their steps, lets, too."""
    steps = book.steps()
    for masks in stricter:
        steps = tuple([mine & yours for mine, yours in zip(steps, masks)])
    return steps
