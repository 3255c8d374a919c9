"""Rows of flows by number, and the numbers of rows."""

from deedmeanings.counting import counted, layers_of_counts, place_standing, row_standing
from deedmeanings.errors import BadIndex, NoRow
from deedmeanings.flows import check_count
from deedmeanings.names import is_integer
from deedmeanings.rows import row_by_numbers, row_told
from deedmeanings.spots import free_spots

# Rows are numbered up to this length.
LONGEST = 60


def row_at(p, n, index):
    """The row that stands at a place in the ascending list of the rows of a length."""
    check_count(n)
    spots = free_spots(p.chart(), p.book.steps())
    layers = layers_of_counts(spots, n)
    if not is_integer(index) or not 0 <= index < counted(spots, layers[n]):
        raise BadIndex(index)
    return row_told(p.book, row_standing(spots, layers, n, index))


def index_of(p, row):
    """The pair of the length of a row and its place in the ascending list of the rows of this length."""
    numbers = needed_row(p, row)
    spots = free_spots(p.chart(), p.book.steps())
    length = len(numbers) // 2
    return length, place_standing(spots, layers_of_counts(spots, length), numbers)


def row_number(p, number):
    """The row that has just so many rows ahead of it, in order."""
    if not is_integer(number) or number < 0:
        raise BadIndex(number)
    spots = free_spots(p.chart(), p.book.steps())
    layers = layers_of_counts(spots, LONGEST)
    left = number
    for length, layer in enumerate(layers):
        many = counted(spots, layer)
        if left < many:
            return row_told(p.book, row_standing(spots, layers, length, left))
        left = left - many
    raise BadIndex(number)


def number_of(p, row):
    """The number of the rows that are ahead of a row in order."""
    numbers = needed_row(p, row)
    spots = free_spots(p.chart(), p.book.steps())
    layers = layers_of_counts(spots, len(numbers) // 2)
    shorter = sum([counted(spots, layer) for layer in layers[:-1]])
    return shorter + place_standing(spots, layers, numbers)


def needed_row(p, thing):
    """A row of a flow, told by numbers; raises NoRow for any object that is none."""
    if thing not in p:
        raise NoRow(thing)
    return row_by_numbers(p.book, thing)
