"""Values of kinds: their sizes, how many there are of each size, and which."""

from firstclause.checks import check_kind, check_number, check_size, check_value
from firstclause.forms import is_sound
from firstclause.sizes import Sizes
from firstclause.trees import size_of_tree, values_within


def is_value(kinds, kind, value):
    """Whether any object is a value of a kind."""
    check_kind(kinds, kind)
    return is_sound(kinds, kind, value, values_within)


def size_of(kinds, kind, value):
    """The size of a value."""
    check_kind(kinds, kind)
    check_value(kinds, kind, value)
    return size_of_tree(value)


def count_values(kinds, kind, size):
    """How many values of a kind have a size."""
    check_kind(kinds, kind)
    check_size(size)
    return Sizes(kinds, size).counts[kind][size]


def nth_value(kinds, kind, size, number):
    """The value with a number among those of a size in their order, or None if there are not so many."""
    check_kind(kinds, kind)
    check_size(size)
    check_number(number)
    sizes = Sizes(kinds, size)
    if number >= sizes.counts[kind][size]:
        return None
    return sizes.value_at(kind, size, number)


def place(kinds, kind, value):
    """The number of a value among those of its size in their order."""
    check_kind(kinds, kind)
    check_value(kinds, kind, value)
    return Sizes(kinds, size_of_tree(value)).place_of(kind, value)
