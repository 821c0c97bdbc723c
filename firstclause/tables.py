"""Tables, which show that no value is missing."""

from firstclause.cases import Cases, bits_of, first_met
from firstclause.catalog import Catalog
from firstclause.checks import check_lists
from firstclause.lines import all_hold, are_lines, masks_of
from firstclause.needs import Needs
from firstclause.patterns import is_pattern


def table(kinds, kind, clauses):
    """A table for a list of clauses, or None if some value is missing."""
    check_lists(kinds, kind, [clauses])
    cases = Cases(kinds, kind, [clauses])
    if cases.taken(None):
        return None
    needs = Needs(cases.reach)
    for state in cases.states:
        needs.demand(state, cases.heads[0][first_met(cases.heads[0], state.mask)], 0)
    lines = needs.lines()
    catalog = cases.reach.catalog
    return {each: [catalog.patterns(each, true) for true, _ in lines[each]] for each in kinds}


def check_table(kinds, kind, clauses, value):
    """Whether any object is a table for a list of clauses."""
    check_lists(kinds, kind, [clauses])
    if not are_lines(kinds, value, is_pattern):
        return False
    catalog = Catalog(kinds)
    heads = bits_of(catalog, kind, clauses)
    lines = {each: [table_line(catalog, each, line) for line in value[each]] for each in kinds}
    if not all([first_met(heads, true) is not None for true, _ in lines[kind]]):
        return False
    return all_hold(catalog, lines)


def table_line(catalog, kind, patterns):
    """The line of some patterns, all of which have to fit."""
    return masks_of(catalog, kind, [(pattern, True) for pattern in patterns])
