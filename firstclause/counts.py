"""The values of one size that are missing or that a clause takes: how many there are, and which."""

from firstclause.cases import Cases
from firstclause.checks import check_lists, check_number, check_position, check_size
from firstclause.search import count_in, nth_in


def count_missing(kinds, kind, clauses, size):
    """How many values of a size are missing."""
    check_lists(kinds, kind, [clauses])
    check_size(size)
    cases = Cases(kinds, kind, [clauses])
    return count_in(cases.reach, cases.taken(None), size)


def count_taken(kinds, kind, clauses, at, size):
    """How many values of a size the clause at a position takes."""
    check_lists(kinds, kind, [clauses])
    check_position(len(clauses), at)
    check_size(size)
    cases = Cases(kinds, kind, [clauses])
    return count_in(cases.reach, cases.taken(at), size)


def count_unlike(kinds, kind, one, other, size):
    """To how many values of a size two lists of clauses give unlike labels, or just one of them gives one."""
    check_lists(kinds, kind, [one, other])
    check_size(size)
    cases = Cases(kinds, kind, [one, other])
    return count_in(cases.reach, cases.parted(), size)


def nth_missing(kinds, kind, clauses, size, number):
    """The value with a number among those of a size that are missing, or None if there are not so many."""
    check_lists(kinds, kind, [clauses])
    check_size(size)
    check_number(number)
    cases = Cases(kinds, kind, [clauses])
    return nth_in(cases.reach, kind, cases.taken(None), size, number)


def nth_taken(kinds, kind, clauses, at, size, number):
    """The value with a number among those of a size that a clause takes, or None if there are not so many."""
    check_lists(kinds, kind, [clauses])
    check_position(len(clauses), at)
    check_size(size)
    check_number(number)
    cases = Cases(kinds, kind, [clauses])
    return nth_in(cases.reach, kind, cases.taken(at), size, number)
