"""Lines that show what a list of clauses does with all values: of each set of patterns that fit, what is needed."""

from firstclause.stocks import Rest


class Needs:
    """Which patterns have to stand in the lines of each state, as fitting and as not fitting, so that all hold."""

    def __init__(self, reach):
        self.reach = reach
        self.true = {}
        self.false = {}
        self.waiting = {}

    def demand(self, stock, true, false):
        """Ask that it is shown of a stock that some patterns hold and others do not."""
        known_true = self.true.get(stock, 0)
        known_false = self.false.get(stock, 0)
        if true & ~known_true or false & ~known_false:
            self.true[stock] = known_true | true
            self.false[stock] = known_false | false
            self.waiting[stock] = True

    def follow_all(self):
        """Ask for all that the demands so far rest on."""
        while self.waiting:
            stocks = list(self.waiting)
            self.waiting = {}
            for stock in stocks:
                if isinstance(stock, Rest):
                    self.follow_rest(stock)
                else:
                    self.follow_state(stock)

    def follow_state(self, state):
        """Ask it of the parts of the values of a state."""
        listing = self.reach.catalog.listings[state.kind]
        true, false = listing.spelled(state.mask, self.true[state], self.false[state])
        for rest in state.held:
            self.demand(rest, true, false)

    def follow_rest(self, rest):
        """Ask it of the shares that can be chosen and of what can follow each."""
        link = rest.place.link
        if link is None:
            return
        always = self.reach.catalog.listings[link.kind].always
        for share, pool in rest.pairs.items():
            part_true = 0
            part_false, behind_false = link.demands_false(share.mask, self.false[rest])
            for behind in pool.held:
                more_true, behind_true = link.demands(behind.mask, self.true[rest])
                part_true |= more_true
                # What is left of a row is a row; what is left of other parts is no value.
                self.demand(behind if behind.state is None else behind.state, behind_true, behind_false)
            for state in share.held:
                self.demand(state, part_true & ~always, part_false)

    def lines(self):
        """For each kind its lines, each with the patterns that fit and those that do not, in masks."""
        self.follow_all()
        return {kind: self.lines_of(kind) for kind in self.reach.catalog.kinds}

    def lines_of(self, kind):
        """The lines of a kind, without those that hold more than another one."""
        found = {}
        for state in self.reach.states_of(kind):
            found[(self.true.get(state, 0), self.false.get(state, 0))] = True
        return [line for line in found if not any([is_less(other, line) for other in found])]


def is_less(line, other):
    """Whether a line holds less than another one, and nothing else."""
    return line != other and line[0] & other[0] == line[0] and line[1] & other[1] == line[1]
