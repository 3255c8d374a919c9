"""Flows: sets of rows of a book, and how they are put together."""

from deedmeanings.charts import all_rows, first_row, goes_on_for_ever, has_row, has_rows
from deedmeanings.charts import is_within, leaves_no_choice, machine_of, opposite, shortest
from deedmeanings.counting import counted, layers_of_counts
from deedmeanings.deciding import chart_of
from deedmeanings.errors import BadCount, NoTest, UnlikeBooks
from deedmeanings.machines import backwards, beginnings, checked, done, joined, repeated, shared, trimmed
from deedmeanings.machines import unbounded, united
from deedmeanings.names import is_integer
from deedmeanings.putting import put_in
from deedmeanings.rows import row_by_numbers, row_told
from deedmeanings.spots import free_spots


class Flow:
    """A book and a set of its rows.

    Inside, the rows are told twice: by a chart, which decides what is asked, and by a machine, which may
    have far fewer places and of which other flows are made.
    """

    def __init__(self, book, machine):
        self.book = book
        few = trimmed(machine, book.steps())
        self._chart = chart_of(few, book.steps())
        fewest = len(self._chart.finals) <= len(few.finals)
        self._machine = machine_of(self._chart) if fewest else few

    def chart(self):
        """The chart of the rows, which is trimmed."""
        return self._chart

    def machine(self):
        """The machine of the rows, which is trimmed."""
        return self._machine

    @staticmethod
    def deed(book, deed):
        """The flow of the steps of a deed that are let."""
        return Flow(book, done(len(book.deeds()), len(book.truths()), book.needed_number(deed)))

    @staticmethod
    def check(book, say):
        """The flow of the rows of length 0 at whose truths a say holds."""
        check_say(book, say)
        return Flow(book, checked(len(book.deeds()), len(book.truths()), book.mask(say)))

    @staticmethod
    def skip(book):
        """The flow of all rows of length 0."""
        return Flow(book, checked(len(book.deeds()), len(book.truths()), (1 << len(book.truths())) - 1))

    @staticmethod
    def stop(book):
        """The flow without rows."""
        return Flow(book, checked(len(book.deeds()), len(book.truths()), 0))

    @staticmethod
    def full(book):
        """The flow of all rows of a book."""
        return Flow(book, unbounded(len(book.deeds()), len(book.truths())))

    def often(self):
        """The flow of the rows that are joined of any number of rows."""
        return Flow(self.book, repeated(self._machine))

    def begun(self):
        """The flow of all beginnings of rows."""
        return Flow(self.book, beginnings(self._machine))

    def turned(self):
        """The flow of the rows read backwards, of the book read backwards."""
        return Flow(self.book.turned(), backwards(self._machine))

    def under(self, book):
        """The flow of those rows that a stricter book lets."""
        if not book <= self.book:
            raise UnlikeBooks()
        return Flow(book, self._machine)

    def put(self, deed, part):
        """The flow of the rows in which rows of a part stand in the place of the steps with a deed."""
        check_books(self, part)
        number = self.book.needed_number(deed)
        return Flow(self.book, put_in(self._machine, number, part._machine, self.book.steps()))

    def first(self):
        """The first row, None if there is none."""
        length = self.length()
        if length is None:
            return None
        return row_told(self.book, first_row(self._chart, self.book.steps(), length))

    def length(self):
        """The length of the first row, None if there is none."""
        return shortest(self._chart, self.book.steps())

    def is_endless(self):
        """Whether there are rows of infinitely many lengths."""
        return goes_on_for_ever(self._chart, self.book.steps())

    def count(self, n):
        """The number of rows of a length."""
        check_count(n)
        spots = free_spots(self._chart, self.book.steps())
        return counted(spots, layers_of_counts(spots, n)[n])

    def rows(self, n):
        """The ascending list of the rows of a length."""
        check_count(n)
        return [row_told(self.book, row) for row in all_rows(self._chart, self.book.steps(), n)]

    def is_sure(self):
        """Whether no choice is left."""
        return leaves_no_choice(self._chart)

    def __rshift__(self, other):
        if not isinstance(other, Flow):
            return NotImplemented
        check_books(self, other)
        return Flow(self.book, joined(self._machine, other._machine))

    def __or__(self, other):
        if not isinstance(other, Flow):
            return NotImplemented
        check_books(self, other)
        return Flow(self.book, united(self._machine, other._machine))

    def __and__(self, other):
        if not isinstance(other, Flow):
            return NotImplemented
        check_books(self, other)
        return Flow(self.book, shared(self._machine, other._machine))

    def __sub__(self, other):
        if not isinstance(other, Flow):
            return NotImplemented
        check_books(self, other)
        return Flow(self.book, shared(self._machine, machine_of(opposite(other._chart))))

    def __invert__(self):
        return Flow(self.book, machine_of(opposite(self._chart)))

    def __pow__(self, other):
        if not is_integer(other):
            return NotImplemented
        flow = Flow.skip(self.book)
        for _ in range(other):
            flow = flow >> self
        return flow

    def __contains__(self, row):
        numbers = row_by_numbers(self.book, row)
        return numbers is not None and has_row(self._chart, numbers)

    def __bool__(self):
        return bool(has_rows(self._chart))

    def __le__(self, other):
        if not isinstance(other, Flow):
            return NotImplemented
        check_books(self, other)
        return is_within(self._chart, other._chart, self.book.steps())

    def __lt__(self, other):
        if not isinstance(other, Flow):
            return NotImplemented
        return self <= other and not other <= self

    def __eq__(self, other):
        return (isinstance(other, Flow) and self.book == other.book
                and is_within(self._chart, other._chart, self.book.steps())
                and is_within(other._chart, self._chart, self.book.steps()))


def check_books(one, other):
    """Raises UnlikeBooks if the books of two flows are not equal."""
    if not one.book == other.book:
        raise UnlikeBooks()


def check_say(book, say):
    """Raises NoTest with the least test of a say that a book has not."""
    for name in say.tests():
        if name not in book.tests():
            raise NoTest(name)


def check_count(thing):
    """Raises BadCount for any object that is no integer from 0 on."""
    if not is_integer(thing) or thing < 0:
        raise BadCount(thing)


def either(say, p, q):
    """The flow that goes on as p where a say holds, as q where it does not."""
    check_books(p, q)
    return Flow.check(p.book, say) >> p | Flow.check(p.book, ~say) >> q


def whilst(say, p):
    """The flow that does p as long as a say holds."""
    return (Flow.check(p.book, say) >> p).often() >> Flow.check(p.book, ~say)
