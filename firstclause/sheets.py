"""Sheets, which show that two lists of clauses do the same."""

from firstclause.cases import Cases, bits_of, first_met
from firstclause.catalog import Catalog, union_of
from firstclause.checks import check_lists
from firstclause.lines import all_hold, are_lines, granted, masks_of
from firstclause.needs import Needs
from firstclause.patterns import is_pattern


def sheet(kinds, kind, one, other):
    """A sheet for two lists of clauses, or None if some value parts them."""
    check_lists(kinds, kind, [one, other])
    cases = Cases(kinds, kind, [one, other])
    if cases.parted():
        return None
    needs = Needs(cases.reach)
    for state in cases.states:
        for bits in cases.heads:
            demand_taker(needs, state, bits)
    lines = needs.lines()
    return {each: [entries(cases.reach.catalog, each, line) for line in lines[each]] for each in kinds}


def demand_taker(needs, state, bits):
    """Ask that the lines of a state decide a list of clauses whose patterns have some bits."""
    at = first_met(bits, state.mask)
    passed = bits if at is None else bits[:at]
    needs.demand(state, 0 if at is None else bits[at], union_of(passed))


def entries(catalog, kind, line):
    """What stands in a line: each pattern of its two masks with its truth."""
    true, false = line
    fitting = [(pattern, True) for pattern in catalog.patterns(kind, true)]
    return fitting + [(pattern, False) for pattern in catalog.patterns(kind, false)]


def check_sheet(kinds, kind, one, other, value):
    """Whether any object is a sheet for two lists of clauses."""
    check_lists(kinds, kind, [one, other])
    if not are_lines(kinds, value, is_entry):
        return False
    catalog = Catalog(kinds)
    lists = [(clauses, bits_of(catalog, kind, clauses)) for clauses in (one, other)]
    lines = {each: [masks_of(catalog, each, line) for line in value[each]] for each in kinds}
    if not all([decides_alike(catalog.listings[kind], lists, line) for line in lines[kind]]):
        return False
    return all_hold(catalog, lines)


def is_entry(kinds, kind, thing):
    """Whether any object may stand in a line: a pattern of the kind with a truth."""
    if not isinstance(thing, tuple) or len(thing) != 2 or not isinstance(thing[1], bool):
        return False
    return is_pattern(kinds, kind, thing[0])


def decides_alike(listing, lists, line):
    """Whether a line decides lists of clauses, each given with the bits of its patterns, and all alike."""
    true, false = granted(listing, line)
    found = [decided(clauses, bits, true, false) for clauses, bits in lists]
    return found[0] != [] and found[0] == found[1]


def decided(clauses, bits, true, false):
    """A list of the label that a line gives, None if it gives none, or an empty list if it does not decide.

    true and false are what the line grants and denies.
    """
    for (_, label), bit in zip(clauses, bits):
        if true & bit:
            return [label]
        if not false & bit:
            return []
    return [None]
