"""Lines of tables and sheets, and whether they hold for all values.

A line is a pair of masks here: the patterns that have to fit, and those that must not, of which a table has none.
"""

from firstclause.catalog import union_of
from firstclause.links import builds_of, leaves_of


def are_lines(kinds, thing, is_entry):
    """Whether any object has a list of lines for each of the kinds and nothing else.

    is_entry(kinds, kind, thing) tells whether any object may stand in a line of a kind.
    """
    if not isinstance(thing, dict) or len(thing) != len(kinds):
        return False
    if not all([kind in thing for kind in kinds]):
        return False
    for kind in kinds:
        if not isinstance(thing[kind], list):
            return False
        for line in thing[kind]:
            if not isinstance(line, list) or not all([is_entry(kinds, kind, entry) for entry in line]):
                return False
    return True


def masks_of(catalog, kind, entries):
    """A line of patterns with truths; the patterns are put into a catalog."""
    true = union_of([catalog.add(kind, pattern) for pattern, truth in entries if truth])
    false = union_of([catalog.add(kind, pattern) for pattern, truth in entries if not truth])
    return true, false


def granted(listing, line):
    """The patterns that a line grants and those that it denies."""
    true, false = line
    return listing.closed(true), listing.closed_false(false)


def all_hold(catalog, lines):
    """Whether for each value of each of the kinds there is a line that holds."""
    told = {kind: [granted(catalog.listings[kind], line) for line in lines[kind]] for kind in lines}
    return all([kind_holds(catalog, kind, lines[kind], told) for kind in lines])


def kind_holds(catalog, kind, lines, told):
    """Whether for each value of a kind one of its lines holds, by what the lines of all kinds grant and deny."""
    listing = catalog.listings[kind]
    for leaf in leaves_of(catalog, kind):
        if not one_holds(lines, leaf.mask, ~leaf.mask):
            return False
    for build in builds_of(catalog, kind):
        rests = [(build.end, build.end_false)]
        if build.maker is None:
            empty = listing.closed(build.end)
            if not one_holds(lines, empty, ~empty):
                return False
            rests = told[kind]
        for shown in joined_lines(build.links, rests, told):
            if not is_shown(listing, lines, shown):
                return False
    return True


def is_shown(listing, lines, shown):
    """Whether one of the lines holds where the patterns of two masks, each "or" left out, are shown."""
    # Most lines hold no "or", and to find out which are shown takes long if there are many.
    if one_holds(lines, shown[0] | listing.always, shown[1]):
        return True
    true, false = granted(listing, shown)
    return one_holds(lines, true, false)


def joined_lines(links, rests, told):
    """What is shown by each choice of a line for each link ahead of what is known of the rests."""
    for link in reversed(links):
        parts = unlike([(link.lift.lifted(true), link.lift.lifted(false)) for true, false in told[link.kind]])
        rests = unlike([(link.joined(part_true, rest_true), link.joined_false(part_false, rest_false))
                        for part_true, part_false in parts for rest_true, rest_false in rests])
    return rests


def unlike(pairs):
    """Pairs without those that stand in the list already."""
    return list({pair: True for pair in pairs})


def one_holds(lines, true, false):
    """Whether there is a line whose patterns are all in two masks."""
    for line_true, line_false in lines:
        if line_true & true == line_true and line_false & false == line_false:
            return True
    return False
