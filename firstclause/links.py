"""How the patterns that fit a value follow from those that fit its parts.

The same holds for what lines of tables and sheets grant and deny, which are masks like those of what fits.
"""

from firstclause.catalog import union_of


class Lift:
    """Which patterns of a whole hold a pattern of one of its parts."""

    def __init__(self):
        self.wholes = {}
        self.inners = {}
        self.known = {}

    def note(self, inner, whole):
        """Keep that the pattern with the number whole holds the one with the number inner for this part."""
        self.wholes[1 << inner] = self.wholes.get(1 << inner, 0) | 1 << whole
        self.inners[1 << whole] = 1 << inner

    def lifted(self, mask):
        """The patterns of the whole whose pattern of the part is in a mask; all patterns are noted before."""
        # The same mask is asked for again with each part ahead of it.
        if mask not in self.known:
            self.known[mask] = union_of([wholes for inner, wholes in self.wholes.items() if inner & mask])
        return self.known[mask]

    def lowered(self, mask):
        """The patterns of the part that patterns of the whole hold."""
        found = 0
        while mask:
            whole = mask & -mask
            found |= self.inners.get(whole, 0)
            mask &= ~whole
        return found


class PartLink:
    """A part of a maker. What is known of the parts behind it is the patterns of the maker that these leave."""

    def __init__(self, kind, lift):
        self.kind = kind
        self.lift = lift

    def joined(self, lifted, rest):
        """The patterns that hold, by those that hold for the part and for the parts behind it."""
        return lifted & rest

    def joined_false(self, lifted, rest):
        """The patterns that do not hold, by those that do not hold for the part and for the parts behind it."""
        return lifted | rest

    def demands(self, rest, true):
        """What has to hold for the part and for the parts behind it, so that some patterns hold."""
        return self.lift.lowered(true), true

    def demands_false(self, lifted, false):
        """What may not hold for the part and for the parts behind it, so that some patterns do not hold."""
        return self.lift.lowered(false & ~lifted), false & lifted


class CellLink:
    """The first cell of a row. What is known of the rest is the patterns of rows that the rest fits."""

    def __init__(self, kind, listing):
        self.kind = kind
        self.lift = Lift()
        self.rest_lift = Lift()
        self.always = listing.always
        self.empty = listing.bit_of(("row",))
        self.behind_bits = 0
        self.ahead_bits = 0
        for number, form in enumerate(listing.forms):
            if form[0] in ("row", "gap", "behind") and len(form) == 3:
                self.note_form(number, form)

    def note_form(self, number, form):
        """Keep what a pattern holds for a first cell and for the rest."""
        self.lift.note(form[1], number)
        self.rest_lift.note(form[2], number)
        if form[0] == "behind":
            self.behind_bits |= 1 << number
        else:
            self.ahead_bits |= 1 << number

    def joined(self, lifted, rest):
        """The patterns that hold for a row, by those that hold for its first cell and for the rest."""
        return self.always | lifted & self.rest_lift.lifted(rest) | rest & self.behind_bits

    def joined_false(self, lifted, rest):
        """The patterns that do not hold for a row, by those that do not hold for its first cell and for the rest."""
        either = lifted | self.rest_lift.lifted(rest)
        return self.empty | either & (self.ahead_bits | rest & self.behind_bits)

    def demands(self, rest, true):
        """What has to hold for the first cell and for the rest, so that some patterns hold."""
        kept = true & rest & self.behind_bits
        split = true & ~kept
        return self.lift.lowered(split), kept | self.rest_lift.lowered(split) & ~self.always

    def demands_false(self, lifted, false):
        """What may not hold for the first cell and for the rest, so that some patterns do not hold."""
        rest_false = self.rest_lift.lowered(false & lifted) | false & self.behind_bits
        return self.lift.lowered(false & ~lifted), rest_false


class Build:
    """A way to build values of a kind: a maker with links to its parts, or rows, maker None, with a link to a cell.

    end has the patterns that hold if no part is left, end_false those that do not, whatever the parts are.
    """

    def __init__(self, maker, links, end, end_false):
        self.maker = maker
        self.links = links
        self.end = end
        self.end_false = end_false


def builds_of(catalog, kind):
    """The ways to build values of a kind, in their order; there are none for numbers and words."""
    form = catalog.kinds[kind]
    listing = catalog.listings[kind]
    if form[0] == "makers":
        return [maker_build(listing, maker, parts) for maker, parts in form[1]]
    if form[0] == "rows":
        return [Build(None, [CellLink(form[1], listing)], listing.always | listing.bit_of(("row",)), 0)]
    return []


def maker_build(listing, maker, parts):
    """How the tuples of a maker are built."""
    lifts = [Lift() for _ in parts]
    own = 0
    others = 0
    for number, form in listing.numbered("maker"):
        if form[1] == maker:
            own |= 1 << number
            for lift, inner in zip(lifts, form[2]):
                lift.note(inner, number)
        else:
            others |= 1 << number
    return Build(maker, [PartLink(part, lift) for part, lift in zip(parts, lifts)], own, others)


class Leaf:
    """Numbers side by side, or one word, that the same patterns fit."""

    def __init__(self, first, many, mask):
        self.first = first
        self.many = many
        self.mask = mask

    def value_at(self, number):
        """The value with a number among these."""
        # A word stands alone, so nothing is ever added to it.
        return self.first if number == 0 else self.first + number


def leaves_of(catalog, kind):
    """The numbers or words of a kind in their order; there are none for makers and rows."""
    form = catalog.kinds[kind]
    listing = catalog.listings[kind]
    if form[0] == "numbers":
        return ranges(listing, form[1], form[2])
    if form[0] == "words":
        return [Leaf(word, 1, listing.closed(listing.bit_of(("word", word)))) for word in form[1]]
    return []


def ranges(listing, low, high):
    """The numbers between two bounds, parted where patterns begin or end to fit."""
    begun = {low: 0}
    ended = {high + 1: 0}
    for number, form in listing.numbered("from"):
        first = low if form[1] is None else max(low, form[1])
        behind = high + 1 if form[2] is None else min(high, form[2]) + 1
        if first < behind:
            begun[first] = begun.get(first, 0) | 1 << number
            ended[behind] = ended.get(behind, 0) | 1 << number
    points = sorted({**begun, **ended})
    found = []
    mask = 0
    for first, behind in zip(points, points[1:]):
        mask = mask & ~ended.get(first, 0) | begun.get(first, 0)
        found.append(Leaf(first, behind - first, listing.closed(mask)))
    return found
