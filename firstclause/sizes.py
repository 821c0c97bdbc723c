"""How many values of each kind have a size, and in which order."""

from firstclause.trees import size_of_tree


class Chain:
    """Parts that are chosen in turn: what is left of the parts of a maker, or of the cells of a row.

    part is the kind of the first one, or None if there is none; behind is the chain of the others;
    ways tells for each size how many choices of the parts have it together.
    """

    def __init__(self, part, can_end):
        self.part = part
        self.behind = None
        self.can_end = can_end
        self.ways = []


def chain_of_parts(parts):
    """The chain of the parts of a maker."""
    chain = Chain(None, True)
    for part in reversed(parts):
        longer = Chain(part, False)
        longer.behind = chain
        chain = longer
    return chain


def chain_of_cells(cell):
    """The chain of the cells of a row, which goes on as long as it likes."""
    chain = Chain(cell, True)
    chain.behind = chain
    return chain


def opening_chains(form):
    """What the values of a kind hold: a chain for each maker, one for all rows, none for numbers and words."""
    if form[0] == "makers":
        return [(maker, chain_of_parts(parts)) for maker, parts in form[1]]
    if form[0] == "rows":
        return [(None, chain_of_cells(form[1]))]
    return []


class Sizes:
    """How many values of each kind have each size up to a greatest one.

    counts has the list of these numbers for each kind, chains the list of its makers with their chains.
    """

    def __init__(self, kinds, greatest):
        self.kinds = kinds
        self.counts = {kind: [] for kind in kinds}
        self.chains = {kind: opening_chains(kinds[kind]) for kind in kinds}
        for size in range(greatest + 1):
            self.add_size(size)

    def add_size(self, size):
        """Count the values of a size and the choices of parts of it; those of all lesser ones are counted."""
        for kind in self.kinds:
            self.counts[kind].append(self.count_of(kind, size))
        for kind in self.kinds:
            for _, chain in self.chains[kind]:
                self.add_ways(chain, size)

    def count_of(self, kind, size):
        """How many values of a kind have a size."""
        form = self.kinds[kind]
        if size == 0:
            return 0
        if form[0] == "numbers":
            return form[2] - form[1] + 1 if size == 1 else 0
        if form[0] == "words":
            return len(form[1]) if size == 1 else 0
        return sum([chain.ways[size - 1] for _, chain in self.chains[kind]])

    def add_ways(self, chain, size):
        """Count the choices of a size for a chain and for those behind it."""
        # The chain of a row is behind itself: once it has its entry for this size, it is done.
        while chain is not None and len(chain.ways) == size:
            chain.ways.append(self.count_ways(chain, size))
            chain = chain.behind

    def count_ways(self, chain, size):
        """How many choices of the parts of a chain have a size together."""
        if size == 0:
            return 1 if chain.can_end else 0
        if chain.part is None:
            return 0
        counts = self.counts[chain.part]
        return sum([counts[first] * chain.behind.ways[size - first] for first in range(1, size + 1)])

    def value_at(self, kind, size, number):
        """The value with a number among those of a size, of which there are more than the number."""
        form = self.kinds[kind]
        if form[0] == "numbers":
            return form[1] + number
        if form[0] == "words":
            return form[1][number]
        maker, chain, left = self.chain_at(kind, size - 1, number)
        parts = self.parts_at(chain, size - 1, left)
        return parts if maker is None else (maker, *parts)

    def chain_at(self, kind, size, number):
        """The maker and the chain that choose parts of a size with a number, and the number among their own."""
        at = 0
        while number >= self.chains[kind][at][1].ways[size]:
            number -= self.chains[kind][at][1].ways[size]
            at += 1
        maker, chain = self.chains[kind][at]
        return maker, chain, number

    def parts_at(self, chain, size, number):
        """The list of the parts of a chain with a number among the choices that have a size together."""
        parts = []
        while size > 0:
            counts = self.counts[chain.part]
            ways = chain.behind.ways
            first = 1
            while number >= counts[first] * ways[size - first]:
                number -= counts[first] * ways[size - first]
                first += 1
            size -= first
            ahead, number = divmod(number, ways[size])
            parts.append(self.value_at(chain.part, first, ahead))
            chain = chain.behind
        return parts

    def place_of(self, kind, value):
        """The number of a value among those of its size."""
        form = self.kinds[kind]
        if form[0] == "numbers":
            return value - form[1]
        if form[0] == "words":
            return form[1].index(value)
        maker, parts = (None, value) if form[0] == "rows" else (value[0], value[1:])
        size = size_of_tree(value) - 1
        ahead = 0
        at = 0
        while self.chains[kind][at][0] != maker:
            ahead += self.chains[kind][at][1].ways[size]
            at += 1
        return ahead + self.place_of_parts(self.chains[kind][at][1], size, parts)

    def place_of_parts(self, chain, size, parts):
        """The number of parts among the choices for a chain that have the same size together."""
        ahead = 0
        for part in parts:
            counts = self.counts[chain.part]
            ways = chain.behind.ways
            own = size_of_tree(part)
            ahead += sum([counts[first] * ways[size - first] for first in range(1, own)])
            size -= own
            ahead += self.place_of(chain.part, part) * ways[size]
            chain = chain.behind
        return ahead
