"""What holds behind the rows of flows, and ahead of them."""

from deedmeanings.charts import first_truths, last_truths
from deedmeanings.flows import Flow, check_books, check_say
from deedmeanings.says import Say


def reached(say, p):
    """The say that is true at just the last truths of the rows of p that begin where a say holds."""
    check_say(p.book, say)
    return p.book.where(last_truths(p.chart(), p.book.steps(), p.book.mask(say)))


def needed(p, say):
    """The say that is true at just the truths from which each row of p ends where a say holds."""
    check_say(p.book, say)
    return ~p.book.where(first_truths(p.chart(), p.book.steps(), p.book.mask(~say)))


def holds(before, p, behind):
    """Whether each row of p that begins where one say holds ends where another one does."""
    came = reached(before, p)
    check_say(p.book, behind)
    return came <= behind


def breaking(before, p, behind):
    """The first row of p that begins where one say holds and ends where another one does not, or None."""
    return (Flow.check(p.book, before) >> p >> Flow.check(p.book, ~behind)).first()


def strongest_kept(say, p):
    """The strongest say that is kept by p and true wherever a say is."""
    wider = say | reached(say, p)
    while not wider <= say:
        say = wider
        wider = say | reached(say, p)
    return wider


def weakest_kept(p, say):
    """The weakest say that is kept by p and true only where a say is."""
    narrower = say & needed(p, say)
    while not say <= narrower:
        say = narrower
        narrower = say & needed(p, say)
    return narrower


def when(p, q):
    """The say that is true at just the truths with which each row of p that begins with them is one of q."""
    check_books(p, q)
    # A say that never holds is needed by rows only where none of them begin.
    return needed(p - q, Say.no())


def thereafter(p, q):
    """The say that is true at just the truths with which each row of p that ends with them is one of q."""
    check_books(p, q)
    return ~reached(Say.yes(), p - q)
