"""The patterns that a call looks at, numbered, together with all that stands within them and what they leave.

A row that begins with a cell fits a pattern if the cell fits its first pattern and the rest of the row fits the rest
of the pattern, which is a pattern of rows, too. So these rests are numbered as well.
"""

from firstclause.kinds import parts_of
from firstclause.patterns import patterns_within


class Listing:
    """The numbered patterns of one kind; a mask has the bit 1 << number for each pattern that is in it.

    forms tells what each pattern is, by the numbers of what it holds: ("any",) is None; ("or", number, ..);
    ("from", low, high); ("word", word); ("maker", maker, (number, ..)); ("row",) and ("gap",) hold no patterns,
    ("row", first, rest), ("gap", first, rest) and, for a gap with patterns behind it alone, ("behind", first, rest)
    have a pattern for a first cell and one for the rest.
    """

    def __init__(self):
        self.forms = []
        self.numbers = {}
        self.choices = []
        self.anything = 0
        self.always = 0

    def number_of(self, form):
        """The number of a form, a new one if it has none yet; what it holds has got lower ones."""
        if form not in self.numbers:
            self.numbers[form] = len(self.forms)
            self.forms.append(form)
            self.note_bit(form, self.bit_of(form))
        return self.numbers[form]

    def note_bit(self, form, bit):
        """Keep the bit of a new form if masks are closed by it."""
        if form[0] == "or":
            self.choices.append((bit, union_of([1 << choice for choice in form[1:]])))
        if form == ("any",):
            self.anything = bit
        if form in (("any",), ("gap",)):
            self.always |= bit

    def bit_of(self, form):
        """The mask of a form, empty if it has no number."""
        return 1 << self.numbers[form] if form in self.numbers else 0

    def numbered(self, name):
        """The forms of one name with their numbers."""
        return [(number, form) for number, form in enumerate(self.forms) if form[0] == name]

    def closed(self, mask):
        """A mask and what holds with it: what fits always, and each "or" with a choice in it."""
        mask |= self.always
        for bit, choices in self.choices:
            if mask & choices:
                mask |= bit
        return mask

    def closed_false(self, mask):
        """A mask of patterns that do not hold and each "or" all of whose choices are in it."""
        mask &= ~self.anything
        for bit, choices in self.choices:
            if mask & choices == choices:
                mask |= bit
        return mask

    def spelled(self, mask, true, false):
        """What patterns that are in a mask and others that are not rest on, without any "or"."""
        for bit, choices in reversed(self.choices):
            if true & bit:
                true &= ~bit
                met = choices & mask
                # One choice that holds is enough, and what holds always rests on nothing.
                if not met & self.always:
                    true |= met & -met
            if false & bit:
                false &= ~bit
                false |= choices
        return true & ~self.always, false


class Catalog:
    """A listing for each of the kinds."""

    def __init__(self, kinds):
        self.kinds = kinds
        self.listings = {kind: Listing() for kind in kinds}

    def add(self, kind, pattern):
        """Number a pattern and all that it rests on, and return its bit."""
        held = [(kind, pattern)]
        starts = []
        while len(starts) < len(held):
            inner_kind, inner = held[len(starts)]
            starts.append(len(held))
            held.extend(patterns_within(self.kinds, inner_kind, inner))
        starts.append(len(held))
        numbers = [0] * len(held)
        # What a pattern holds stands behind it in the list, so its numbers are there first.
        for at in reversed(range(len(held))):
            inner_kind, inner = held[at]
            numbers[at] = self.number(inner_kind, inner, numbers[starts[at]:starts[at + 1]])
        return 1 << numbers[0]

    def number(self, kind, pattern, held):
        """The number of a pattern that holds patterns with these numbers."""
        listing = self.listings[kind]
        if pattern is None:
            return listing.number_of(("any",))
        if pattern[0] == "or":
            return listing.number_of(("or", *held))
        if pattern[0] == "maker":
            return listing.number_of(("maker", pattern[1], tuple(held)))
        if pattern[0] == "row":
            return number_cells(listing, "row", held, listing.number_of(("row",)))
        if pattern[0] == "gap":
            return number_gap(listing, held[:len(pattern[1])], held[len(pattern[1]):])
        return listing.number_of(pattern)

    def patterns(self, kind, mask):
        """The patterns of a mask, all lists in them new."""
        return [self.pattern(kind, number) for number in range(mask.bit_length()) if mask >> number & 1]

    def pattern(self, kind, number):
        """The pattern with a number, all lists in it new."""
        form = self.listings[kind].forms[number]
        if form[0] == "any":
            return None
        if form[0] == "or":
            return ("or", [self.pattern(kind, choice) for choice in form[1:]])
        if form[0] == "maker":
            parts = parts_of(self.kinds[kind][1], form[1])
            return ("maker", form[1], [self.pattern(part, inner) for part, inner in zip(parts, form[2])])
        if form[0] in ("from", "word"):
            return form
        return self.row_pattern(kind, form)

    def row_pattern(self, kind, form):
        """The pattern of rows with a form."""
        name = form[0]
        ahead = []
        behind = []
        while len(form) == 3:
            first = self.pattern(self.kinds[kind][1], form[1])
            if form[0] == "gap":
                ahead.append(first)
            else:
                behind.append(first)
            form = self.listings[kind].forms[form[2]]
        return ("row", behind) if name == "row" else ("gap", ahead, behind)


def number_gap(listing, ahead, behind):
    """The number of a gap between patterns with these numbers."""
    number = listing.number_of(("gap",))
    if behind:
        rest = number_cells(listing, "row", behind[1:], listing.number_of(("row",)))
        number = listing.number_of(("behind", behind[0], rest))
    return number_cells(listing, "gap", ahead, number)


def number_cells(listing, name, cells, number):
    """The number of a pattern of rows that asks for some cells ahead of the pattern with a number."""
    for first in reversed(cells):
        number = listing.number_of((name, first, number))
    return number


def union_of(masks):
    """The mask of all that is in some masks."""
    found = 0
    for mask in masks:
        found |= mask
    return found
