"""Values of kinds: their sizes, how many there are of each size, and which."""

from firstclause.catalog import Catalog
from firstclause.checks import check_kind, check_number, check_size, check_value
from firstclause.forms import is_sound
from firstclause.picks import number_of
from firstclause.reach import Reach
from firstclause.search import count_in, nth_in
from firstclause.trees import size_of_tree, values_within


def is_value(kinds, kind, value):
    """Whether any object is a value of a kind."""
    check_kind(kinds, kind)
    return is_sound(kinds, kind, value, values_within)


def size_of(kinds, kind, value):
    """The size of a value."""
    check_kind(kinds, kind)
    check_value(kinds, kind, value)
    return size_of_tree(value)


def count_values(kinds, kind, size):
    """How many values of a kind have a size."""
    check_kind(kinds, kind)
    check_size(size)
    reach = Reach(Catalog(kinds))
    return count_in(reach, reach.states_of(kind), size)


def nth_value(kinds, kind, size, number):
    """The value with a number among those of a size in their order, or None if there are not so many."""
    check_kind(kinds, kind)
    check_size(size)
    check_number(number)
    reach = Reach(Catalog(kinds))
    return nth_in(reach, kind, reach.states_of(kind), size, number)


def place(kinds, kind, value):
    """The number of a value among those of its size in their order."""
    check_kind(kinds, kind)
    check_value(kinds, kind, value)
    reach = Reach(Catalog(kinds))
    reach.count_to(size_of_tree(value))
    return number_of(reach, kind, value)
