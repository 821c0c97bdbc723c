"""The values of a kind, parted by what lists of clauses do with them."""

from firstclause.catalog import Catalog
from firstclause.reach import Reach


class Cases:
    """The states of a kind for some lists of clauses; heads has the bits of the clauses' patterns for each list."""

    def __init__(self, kinds, kind, lists):
        catalog = Catalog(kinds)
        self.kind = kind
        self.lists = lists
        self.heads = [bits_of(catalog, kind, clauses) for clauses in lists]
        self.reach = Reach(catalog)
        self.states = self.reach.states_of(kind)

    def taken(self, at):
        """The states whose values the clause at a position of the first list takes, or none of it if it is None."""
        return [state for state in self.states if first_met(self.heads[0], state.mask) == at]

    def labels(self, state):
        """The label that each list gives the values of a state, or None if they are missing in it."""
        takers = [first_met(bits, state.mask) for bits in self.heads]
        return [None if at is None else clauses[at][1] for clauses, at in zip(self.lists, takers)]


def bits_of(catalog, kind, clauses):
    """The bits of the patterns of clauses, which are put into a catalog."""
    return [catalog.add(kind, pattern) for pattern, _ in clauses]


def first_met(bits, mask):
    """The position of the first bit that is in a mask, or None if none is."""
    for at, bit in enumerate(bits):
        if bit & mask:
            return at
    return None
