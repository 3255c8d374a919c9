"""Small questions about plain things: names, lists, integers, and masks of places.

A mask is an integer that tells a set of numbers: bit k is set if k belongs to it.
"""

LETTERS = "abcdefghijklmnopqrstuvwxyz"
LONGEST = 8


def is_list(thing):
    """Whether a thing may stand where a list is told: tuples may, too."""
    return isinstance(thing, (list, tuple))


def is_integer(thing):
    """Whether a thing is an integer; truth values are none."""
    return isinstance(thing, int) and not isinstance(thing, bool)


def is_name(thing):
    """Whether a thing is a string of 1 to 8 lower-case letters."""
    if not isinstance(thing, str) or not 1 <= len(thing) <= LONGEST:
        return False
    return all([letter in LETTERS for letter in thing])


def are_names(thing):
    """Whether a thing is a list of unlike names."""
    if not is_list(thing) or not all([is_name(name) for name in thing]):
        return False
    return len(set(thing)) == len(thing)


def ascending(names):
    """The tuple of some strings in order."""
    return tuple(sorted([str(name) for name in names]))


def merged(one, two):
    """The ascending tuple of the names that stand in one or the other tuple."""
    return ascending(list(one) + [name for name in two if name not in one])


def subsets(things):
    """The ascending list of all tuples that are made of an ascending tuple by leaving some things out."""
    if not things:
        return [()]
    rest = subsets(things[1:])
    return [()] + [things[:1] + some for some in rest] + rest[1:]


def numbers_of(things):
    """The dict from each of some unlike things to its place among them."""
    return {thing: place for place, thing in enumerate(things)}


def members(mask):
    """The ascending list of the numbers in a mask."""
    found = []
    while mask:
        low = mask & -mask
        found.append(low.bit_length() - 1)
        mask = mask ^ low
    return found


def mask_of(numbers):
    """The mask of some numbers."""
    mask = 0
    for number in numbers:
        mask = mask | (1 << number)
    return mask
