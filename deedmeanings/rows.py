"""Rows of a book, told by numbers: truths, deed, truths, and so on, each by its number in the book."""

from deedmeanings.names import is_list


def numbers_by_turns(book, thing):
    """The list of the numbers of truths and deeds by turns, None for any object that is no such tuple."""
    if not is_list(thing) or len(thing) % 2 == 0:
        return None
    numbers = [book.number(part) if at % 2 else book.rank(part) for at, part in enumerate(thing)]
    return numbers if all([number is not None for number in numbers]) else None


def row_by_numbers(book, thing):
    """The list of the numbers of a row, None for any object that is no row of the book."""
    numbers = numbers_by_turns(book, thing)
    if numbers is None:
        return None
    steps = book.steps()
    width = len(book.deeds())
    for at in range(0, len(numbers) - 1, 2):
        if not steps[numbers[at] * width + numbers[at + 1]] >> numbers[at + 2] & 1:
            return None
    return numbers


def row_told(book, numbers):
    """The row, a tuple, that is told by numbers."""
    truths = book.truths()
    deeds = book.deeds()
    return tuple([deeds[number] if at % 2 else truths[number] for at, number in enumerate(numbers)])
