"""The values of a kind, parted by what lists of clauses do with them."""

from firstclause.catalog import Catalog
from firstclause.reach import Reach


class Cases:
    """The states of a kind for some lists of clauses; heads has the bits of the clauses' patterns for each list."""

    def __init__(self, kinds, kind, lists):
        catalog = Catalog(kinds)
        self.kind = kind
        self.lists = lists
        self.heads = [bits_of(catalog, kind, clauses) for clauses in lists]
        self.reach = Reach(catalog)
        self.states = self.reach.states_of(kind)

    def taken(self, at):
        """The states whose values the clause at a position of the first list takes, or none of it if it is None."""
        return [state for state in self.states if first_met(self.heads[0], state.mask) == at]

    def parted(self):
        """The states to whose values the lists, two of them, give unlike labels."""
        return [state for state in self.states if self.label(0, state) != self.label(1, state)]

    def label(self, number, state):
        """The label that the list with a number gives the values of a state, or None if they are missing in it."""
        at = first_met(self.heads[number], state.mask)
        return None if at is None else self.lists[number][at][1]

    def met(self):
        """The positions of the clauses of the first list that fit a value, ascending, each list that there is once."""
        found = {}
        for state in self.states:
            found[tuple([at for at, bit in enumerate(self.heads[0]) if bit & state.mask])] = True
        return [list(positions) for positions in found]


def bits_of(catalog, kind, clauses):
    """The bits of the patterns of clauses, which are put into a catalog."""
    return [catalog.add(kind, pattern) for pattern, _ in clauses]


def first_met(bits, mask):
    """The position of the first bit that is in a mask, or None if none is."""
    for at, bit in enumerate(bits):
        if bit & mask:
            return at
    return None
