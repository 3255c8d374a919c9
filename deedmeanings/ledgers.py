"""Ledgers: a flow that is rewritten, promises that are assumed, and proposals beside the flow."""

from deedmeanings.charts import is_within
from deedmeanings.errors import BadName, BadPromise, Leaned, NoName, NothingToUndo, Refused, UnlikeBooks
from deedmeanings.names import is_name


class Page:
    """How a ledger stands: it is never changed, a deed of the ledger turns to another one.

    What is assumed and proposed are dicts from names; what was taken is a tuple of pairs of the flow ahead
    and the flow that was taken. The states of all proposals are told when the page is made.
    """

    def __init__(self, current, assumed, proposed, taken):
        self.current = current
        self.assumed = assumed
        self.proposed = proposed
        self.taken = taken
        self.book = current.book.more(list(assumed.values()))
        self.told = {name: state_beside(proposed[name], current, self.book) for name in in_order(proposed)}


class Ledger:
    """A flow that is rewritten, with the pages to which can be turned back, and forth again."""

    def __init__(self, flow):
        self._page = Page(flow, {}, {}, ())
        self._earlier = ()
        self._later = ()

    def flow(self):
        """The flow as it is now."""
        return self._page.current

    def book_now(self):
        """The book of the flow with all promises that are assumed."""
        return self._page.book

    def promises(self):
        """The ascending dict from names to the promises that are assumed under them."""
        return {name: self._page.assumed[name] for name in in_order(self._page.assumed)}

    def states(self):
        """The ascending dict from the names of the proposals to their states."""
        return {name: self._page.told[name] for name in self._page.told}

    def state(self, name):
        """The state of a proposal."""
        check_there(self._page.proposed, name)
        return self._page.told[name]

    def assume(self, name, promise):
        """Assumes a promise; returns the news."""
        page = self._page
        if not is_name(name) or name in page.assumed:
            raise BadName(name)
        if not page.book.has_promise(promise):
            raise BadPromise(0)
        return self.turn(Page(page.current, with_one(page.assumed, name, tuple(promise)), page.proposed, page.taken))

    def drop(self, name):
        """Ends that a promise is assumed; returns the news."""
        page = self._page
        check_there(page.assumed, name)
        less = Page(page.current, without_one(page.assumed, name), page.proposed, page.taken)
        for ahead, taken in page.taken:
            if not is_within(taken.chart(), ahead.chart(), less.book.steps()):
                raise Leaned(name)
        return self.turn(less)

    def propose(self, name, flow):
        """Keeps a proposal; returns the news."""
        page = self._page
        if not is_name(name) or name in page.proposed:
            raise BadName(name)
        if not flow.book == page.current.book:
            raise UnlikeBooks()
        return self.turn(Page(page.current, page.assumed, with_one(page.proposed, name, flow), page.taken))

    def withdraw(self, name):
        """Ends a proposal; returns the news."""
        page = self._page
        check_there(page.proposed, name)
        return self.turn(Page(page.current, page.assumed, without_one(page.proposed, name), page.taken))

    def take(self, name):
        """Makes a proposal the flow; returns the news."""
        page = self._page
        check_there(page.proposed, name)
        flow = page.proposed[name]
        if page.told[name] not in ("same", "less"):
            raise Refused((flow - page.current).under(page.book).first())
        taken = page.taken + ((page.current, flow),)
        return self.turn(Page(flow, page.assumed, without_one(page.proposed, name), taken))

    def undo(self):
        """Takes back the last deed that is not taken back; returns the news."""
        if not self._earlier:
            raise NothingToUndo()
        page = self._page
        self._page = self._earlier[-1]
        self._earlier = self._earlier[:-1]
        self._later = self._later + (page,)
        return news_of(page, self._page)

    def redo(self):
        """Does the last deed again that was taken back; returns the news."""
        if not self._later:
            raise NothingToUndo()
        page = self._page
        self._page = self._later[-1]
        self._later = self._later[:-1]
        self._earlier = self._earlier + (page,)
        return news_of(page, self._page)

    def trial(self, work):
        """Calls a function with the ledger, which is behind it as it was ahead; returns what it returns."""
        page, earlier, later = self._page, self._earlier, self._later
        try:
            return work(self)
        finally:
            self._page, self._earlier, self._later = page, earlier, later

    def turn(self, page):
        """Turns to the page to which a new deed led; returns the news."""
        ahead = self._page
        self._page = page
        self._earlier = self._earlier + (ahead,)
        self._later = ()
        return news_of(ahead, page)

    def __len__(self):
        return len(self._page.proposed)

    def __contains__(self, name):
        return isinstance(name, str) and name in self._page.proposed


def in_order(kept):
    """The ascending list of the names that are the keys of a dict."""
    return sorted([str(name) for name in kept])


def with_one(kept, name, thing):
    """A dict with one key more."""
    return dict([(key, kept[key]) for key in kept] + [(name, thing)])


def without_one(kept, name):
    """A dict with one key less."""
    return {key: kept[key] for key in kept if key != name}


def check_there(kept, name):
    """Raises NoName for any object that is none of the names that are the keys of a dict."""
    if not isinstance(name, str) or name not in kept:
        raise NoName(name)


def state_beside(proposal, flow, book):
    """How a proposal stands beside a flow, told of those of their rows that a stricter book lets."""
    less = is_within(proposal.chart(), flow.chart(), book.steps())
    more = is_within(flow.chart(), proposal.chart(), book.steps())
    if less and more:
        return "same"
    if less or more:
        return "less" if less else "more"
    return "other"


def news_of(ahead, behind):
    """The ascending list of the pairs of proposals and states that are so on one page, but were not on another."""
    return [(name, behind.told[name]) for name in behind.told
            if name not in ahead.told or ahead.told[name] != behind.told[name]]
