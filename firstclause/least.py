"""Which values are missing and which clauses take: the first ones, and how many there are in all."""

from firstclause.cases import Cases
from firstclause.checks import check_lists, check_position, check_size
from firstclause.search import least_in, total_in


def least_missing(kinds, kind, clauses):
    """The first value that is missing, or None if none is."""
    check_lists(kinds, kind, [clauses])
    return least_beyond(Cases(kinds, kind, [clauses]), None, 0)


def least_taken(kinds, kind, clauses, at):
    """The first value that the clause at a position takes, or None if it takes none."""
    check_lists(kinds, kind, [clauses])
    check_position(len(clauses), at)
    return least_beyond(Cases(kinds, kind, [clauses]), at, 0)


def unreached(kinds, kind, clauses):
    """The ascending list of the positions of the clauses that take no value."""
    check_lists(kinds, kind, [clauses])
    cases = Cases(kinds, kind, [clauses])
    return [at for at in range(len(clauses)) if not cases.taken(at)]


def total_missing(kinds, kind, clauses):
    """How many values are missing, or None if they are endlessly many."""
    check_lists(kinds, kind, [clauses])
    return total_in(Cases(kinds, kind, [clauses]).taken(None))


def total_taken(kinds, kind, clauses, at):
    """How many values the clause at a position takes, or None if they are endlessly many."""
    check_lists(kinds, kind, [clauses])
    check_position(len(clauses), at)
    return total_in(Cases(kinds, kind, [clauses]).taken(at))


def greater_missing(kinds, kind, clauses, size):
    """The first value greater than a size that is missing, or None if none is."""
    check_lists(kinds, kind, [clauses])
    check_size(size)
    return least_beyond(Cases(kinds, kind, [clauses]), None, size)


def greater_taken(kinds, kind, clauses, at, size):
    """The first value greater than a size that the clause at a position takes, or None if it takes none."""
    check_lists(kinds, kind, [clauses])
    check_position(len(clauses), at)
    check_size(size)
    return least_beyond(Cases(kinds, kind, [clauses]), at, size)


def least_beyond(cases, at, size):
    """The first value greater than a size that a clause takes, at None one that is missing, or None."""
    return least_in(cases.reach, cases.kind, cases.taken(at), size)
