"""Stocks: values of a kind, or choices of parts, that the same is known of, counted by their sizes."""


class Pool:
    """A stock that has what other stocks have, each thing greater by a number.

    counts tells how many things have each size, total how many there are and greatest which size the greatest has;
    both are None where there are endlessly many.
    """

    def __init__(self, mask, greater):
        self.mask = mask
        self.greater = greater
        self.singles = 0
        self.held = []
        self.counts = {}
        self.total = None
        self.greatest = None

    def count_of(self, size):
        """How many things have a size, if those of the stocks that it holds are counted."""
        many = self.singles if size == 1 else 0
        for stock in self.held:
            many += stock.counts.get(size - self.greater, 0)
        return many

    def needed(self):
        """The stocks on which this one rests."""
        return self.held

    def settle(self):
        """Find out the total and the greatest size; those of the stocks that it holds are known."""
        self.total = self.singles + sum([stock.total for stock in self.held])
        self.greatest = max([stock.greatest + self.greater for stock in self.held], default=1)


class State(Pool):
    """All values of a kind that just the patterns of a mask fit."""

    def __init__(self, kind, mask):
        super().__init__(mask, 1)
        self.kind = kind


class Rest:
    """Choices for a place and all places behind it: pairs has the stock of what follows for each share chosen there.

    ends tells whether nothing at all is one of the choices; state is the state of the values that are made of these,
    if the place is the first one.
    """

    def __init__(self, place, mask):
        self.place = place
        self.mask = mask
        self.ends = False
        self.state = None
        self.pairs = {}
        self.counts = {}
        self.total = None
        self.greatest = None

    def count_of(self, size):
        """How many choices have a size together."""
        many = 1 if self.ends and size == 0 else 0
        for share, behind in self.pairs.items():
            for first, ways in share.counts.items():
                many += ways * behind.counts.get(size - first, 0)
        return many

    def needed(self):
        """The stocks on which this one rests."""
        return [*self.pairs, *list(self.pairs.values())]

    def settle(self):
        """Find out the total and the greatest size; those of the stocks that it holds are known."""
        self.total = 1 if self.ends else 0
        self.greatest = 0
        for share, behind in self.pairs.items():
            self.total += share.total * behind.total
            self.greatest = max(self.greatest, share.greatest + behind.greatest)


def settle_all(stocks):
    """Find out the total and the greatest size of each stock that has finitely many things."""
    users = {stock: [] for stock in stocks}
    missing = {}
    for stock in stocks:
        needed = stock.needed()
        missing[stock] = len(needed)
        for other in needed:
            users[other].append(stock)
    settled = [stock for stock in stocks if missing[stock] == 0]
    # What rests on itself is never reached, and no stock is empty: there things go on endlessly.
    while settled:
        stock = settled.pop()
        stock.settle()
        for user in users[stock]:
            missing[user] -= 1
            if missing[user] == 0:
                settled.append(user)
