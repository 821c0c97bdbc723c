"""What patterns and clauses are, and what they fit."""

from firstclause.forms import is_filled_list, is_name, is_sound, is_whole
from firstclause.kinds import parts_of


def is_pattern(kinds, kind, thing):
    """Whether any object is a pattern of a kind."""
    return is_sound(kinds, kind, thing, patterns_within)


def patterns_within(kinds, kind, thing):
    """What stands right within a pattern, each with its kind, or None if the object is no pattern of the kind."""
    if thing is None:
        return []
    if not isinstance(thing, tuple) or not thing:
        return None
    if thing[0] == "or":
        return [(kind, choice) for choice in thing[1]] if len(thing) == 2 and is_filled_list(thing[1]) else None
    form = kinds[kind]
    if form[0] == "numbers":
        return [] if is_range_pattern(thing) else None
    if form[0] == "words":
        return [] if len(thing) == 2 and thing[0] == "word" and thing[1] in form[1] else None
    if form[0] == "makers":
        return maker_patterns_within(form[1], thing)
    return row_patterns_within(form[1], thing)


def is_range_pattern(thing):
    """Whether a tuple is a pattern of numbers with two bounds."""
    return len(thing) == 3 and thing[0] == "from" and is_bound(thing[1]) and is_bound(thing[2])


def is_bound(thing):
    """Whether any object is a whole number or None."""
    return thing is None or is_whole(thing)


def maker_patterns_within(makers, thing):
    """The patterns of the parts, each with its kind, or None if the tuple is no pattern of one of the makers."""
    if len(thing) != 3 or thing[0] != "maker" or not isinstance(thing[2], list):
        return None
    parts = parts_of(makers, thing[1])
    if parts is None or len(thing[2]) != len(parts):
        return None
    return list(zip(parts, thing[2]))


def row_patterns_within(cell, thing):
    """The patterns of the cells, each with its kind, or None if the tuple is no pattern of rows."""
    if not all([isinstance(patterns, list) for patterns in thing[1:]]):
        return None
    if len(thing) == 2 and thing[0] == "row":
        return [(cell, pattern) for pattern in thing[1]]
    if len(thing) == 3 and thing[0] == "gap":
        return [(cell, pattern) for pattern in thing[1] + thing[2]]
    return None


def pattern_fits(pattern, value):
    """Whether a pattern of a kind fits a value of this kind."""
    if pattern is None:
        return True
    if pattern[0] == "or":
        return any([pattern_fits(choice, value) for choice in pattern[1]])
    if pattern[0] == "from":
        return (pattern[1] is None or pattern[1] <= value) and (pattern[2] is None or value <= pattern[2])
    if pattern[0] == "word":
        return pattern[1] == value
    if pattern[0] == "maker":
        return pattern[1] == value[0] and all_fit(pattern[2], value[1:])
    if pattern[0] == "row":
        return len(pattern[1]) == len(value) and all_fit(pattern[1], value)
    return gap_fits(pattern[1], pattern[2], value)


def all_fit(patterns, values):
    """Whether patterns fit as many values in their order."""
    return all([pattern_fits(pattern, value) for pattern, value in zip(patterns, values)])


def gap_fits(ahead, behind, row):
    """Whether a row begins and ends with cells that two lists of patterns fit, no cell counted for both."""
    if len(row) < len(ahead) + len(behind):
        return False
    return all_fit(ahead, row) and all_fit(behind, row[len(row) - len(behind):])


def is_clause(kinds, kind, thing):
    """Whether any object is a clause of a kind."""
    if not isinstance(thing, tuple) or len(thing) != 2:
        return False
    return is_pattern(kinds, kind, thing[0]) and is_name(thing[1])


def is_clauses(kinds, kind, thing):
    """Whether any object is a list of clauses of a kind."""
    return isinstance(thing, list) and all([is_clause(kinds, kind, clause) for clause in thing])


def first_fitting(clauses, value):
    """The position of the first clause whose pattern fits a value, or None if there is none."""
    for at, (pattern, _) in enumerate(clauses):
        if pattern_fits(pattern, value):
            return at
    return None
