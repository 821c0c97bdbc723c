"""Patterns and lists of clauses: what they fit, and which clause takes a value."""

from firstclause.checks import check_kind, check_lists, check_pattern, check_value
from firstclause.patterns import first_fitting, pattern_fits


def fits(kinds, kind, pattern, value):
    """Whether a pattern fits a value."""
    check_kind(kinds, kind)
    check_pattern(kinds, kind, pattern)
    check_value(kinds, kind, value)
    return pattern_fits(pattern, value)


def taker(kinds, kind, clauses, value):
    """The position of the clause that takes a value, or None if no clause does."""
    check_lists(kinds, kind, [clauses])
    check_value(kinds, kind, value)
    return first_fitting(clauses, value)


def label(kinds, kind, clauses, value):
    """The label that a list of clauses gives a value, or None if no clause takes it."""
    at = taker(kinds, kind, clauses, value)
    return None if at is None else clauses[at][1]
