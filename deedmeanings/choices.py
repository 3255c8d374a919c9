"""Sets of places in a list, told as ascending tuples, those with fewer places first."""

from deedmeanings.names import subsets


def all_choices(count):
    """The list of all sets of places of a list of some length, in order."""
    every = subsets(tuple(range(count)))
    return [some for size in range(count + 1) for some in every if len(some) == size]


def is_part(some, others):
    """Whether each place of one set is a place of another one."""
    return all([place in others for place in some])


def least_choices(choices):
    """Those of some sets, in their order, of which no other one is a part."""
    return [some for some in choices if not any([is_part(other, some) and other != some for other in choices])]


def greatest_left(count, choices):
    """Those sets, in order, that are none of some sets, but of which each that has more places is."""
    left = [some for some in all_choices(count) if some not in choices]
    return [some for some in left if not any([is_part(some, other) and other != some for other in left])]
