"""The checks of arguments: each raises the error of its argument and returns nothing.

A function checks its arguments one by one in the order of its parameters; a check relies on those ahead of it.
"""

from firstclause.errors import InvalidClause, InvalidClauses, InvalidKind, InvalidKinds, InvalidNumber
from firstclause.errors import InvalidPattern, InvalidPosition, InvalidSize, InvalidValue
from firstclause.forms import is_count, is_sound
from firstclause.kinds import is_kind, is_kinds
from firstclause.patterns import is_clause, is_clauses, is_pattern
from firstclause.trees import values_within


def check_kind(kinds, kind):
    """Check kinds and the name of one of them."""
    if not is_kinds(kinds):
        raise InvalidKinds(kinds)
    if not is_kind(kinds, kind):
        raise InvalidKind(kind)


def check_value(kinds, kind, value):
    """Check a value of a kind."""
    if not is_sound(kinds, kind, value, values_within):
        raise InvalidValue(value)


def check_size(size):
    """Check a size."""
    if not is_count(size):
        raise InvalidSize(size)


def check_number(number):
    """Check the number of a value."""
    if not is_count(number):
        raise InvalidNumber(number)


def check_pattern(kinds, kind, pattern):
    """Check a pattern of a kind."""
    if not is_pattern(kinds, kind, pattern):
        raise InvalidPattern(pattern)


def check_clause(kinds, kind, clause):
    """Check a clause of a kind."""
    if not is_clause(kinds, kind, clause):
        raise InvalidClause(clause)


def check_clauses(kinds, kind, clauses):
    """Check a list of clauses of a kind."""
    if not is_clauses(kinds, kind, clauses):
        raise InvalidClauses(clauses)


def check_lists(kinds, kind, lists):
    """Check kinds, a kind and lists of clauses of it."""
    check_kind(kinds, kind)
    for clauses in lists:
        check_clauses(kinds, kind, clauses)


def check_position(many, at):
    """Check a position where there are so many of them."""
    if not is_count(at) or at >= many:
        raise InvalidPosition(at)
