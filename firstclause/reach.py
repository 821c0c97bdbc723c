"""Which patterns fit a value together: all masks that there are, found from the least values on."""

from firstclause.links import builds_of, leaves_of
from firstclause.stocks import Pool, Rest, State, settle_all


class Place:
    """A place of a build, where a part is chosen, or the end of one.

    shares are states of the part's kind, put together where they mean the same to the whole; rests are the choices
    for this place and all behind it. joinable are the rests that are joined with all shares of the place ahead.
    """

    def __init__(self, link, behind):
        self.link = link
        self.behind = behind
        self.ahead = None
        self.whole = None
        self.shares = {}
        self.share_by_state = {}
        self.rests = {}
        self.joinable = []


class Reach:
    """All states of the kinds of a catalog, and how their values are built of one another.

    What it finds, and in which order, does not depend on the order in which the kinds were put into their dictionary.
    """

    def __init__(self, catalog):
        self.catalog = catalog
        self.names = sorted(catalog.kinds)
        self.states = {kind: {} for kind in self.names}
        self.leaves = {kind: [] for kind in self.names}
        self.places = {kind: [] for kind in self.names}
        self.uses = {kind: [] for kind in self.names}
        self.all_states = []
        self.all_shares = []
        self.all_rests = []
        self.all_behind = []
        self.counted = 0
        for kind in self.names:
            self.begin_kind(kind)
        self.follow_all()
        settle_all(self.stocks())

    def stocks(self):
        """All stocks, so ordered that each one's things of a size can be counted after those of the ones ahead."""
        return [*self.all_states, *self.all_shares, *self.all_rests, *self.all_behind]

    def begin_kind(self, kind):
        """Find the states of the values without parts, and lay out the places of all others."""
        for leaf in leaves_of(self.catalog, kind):
            state = self.state_of(kind, leaf.mask)
            state.singles += leaf.many
            self.leaves[kind].append((leaf, state))
        for build in builds_of(self.catalog, kind):
            end = self.lay_ring(build.links[0]) if build.maker is None else Place(None, None)
            first = end if build.maker is None else self.lay_places(build.links, end)
            first.whole = kind
            self.places[kind].append((build.maker, first))
            nothing = self.rest_of(end, build.end)
            nothing.ends = True

    def lay_ring(self, link):
        """A place for a cell that stands behind itself, for there are rows of any length."""
        place = Place(link, None)
        place.behind = place
        place.ahead = place
        self.uses[link.kind].append(place)
        return place

    def lay_places(self, links, end):
        """The first of the places of some links, which stand ahead of an end."""
        place = end
        for link in reversed(links):
            place.ahead = Place(link, place)
            place = place.ahead
            self.uses[link.kind].append(place)
        return place

    def state_of(self, kind, mask):
        """The state of a kind with a mask, a new one if there is none yet."""
        states = self.states[kind]
        if mask not in states:
            states[mask] = State(kind, mask)
            self.all_states.append(states[mask])
        return states[mask]

    def rest_of(self, place, mask):
        """The rest of a place with a mask, a new one if there is none yet."""
        if mask not in place.rests:
            rest = Rest(place, mask)
            place.rests[mask] = rest
            self.all_rests.append(rest)
            if place.whole is not None:
                rest.state = self.state_of(place.whole, self.catalog.listings[place.whole].closed(mask))
                rest.state.held.append(rest)
        return place.rests[mask]

    def share_of(self, place, mask):
        """The share of a place with a mask, a new one, joined with all that can stand behind it, if there is none."""
        if mask not in place.shares:
            share = Pool(mask, 0)
            place.shares[mask] = share
            self.all_shares.append(share)
            for rest in list(place.behind.joinable):
                self.combine(place, share, rest)
        return place.shares[mask]

    def combine(self, place, share, rest):
        """Find the rest that a share chosen for a place and a rest behind it make together."""
        found = self.rest_of(place, place.link.joined(share.mask, rest.mask))
        if share not in found.pairs:
            found.pairs[share] = Pool(0, 0)
            self.all_behind.append(found.pairs[share])
        found.pairs[share].held.append(rest)

    def follow_all(self):
        """Find all that the states and rests found so far, and those found on the way, are used for."""
        states = 0
        rests = 0
        while states < len(self.all_states) or rests < len(self.all_rests):
            if rests < len(self.all_rests):
                self.follow_rest(self.all_rests[rests])
                rests += 1
            else:
                self.follow_state(self.all_states[states])
                states += 1

    def follow_state(self, state):
        """Choose the values of a state wherever their kind is that of a part."""
        for place in self.uses[state.kind]:
            share = self.share_of(place, place.link.lift.lifted(state.mask))
            share.held.append(state)
            place.share_by_state[state] = share

    def follow_rest(self, rest):
        """Choose each share ahead of a rest. Shares that are found later are joined with it then."""
        rest.place.joinable.append(rest)
        ahead = rest.place.ahead
        if ahead is not None:
            for share in list(ahead.shares.values()):
                self.combine(ahead, share, rest)

    def states_of(self, kind):
        """All states of a kind."""
        return list(self.states[kind].values())

    def count_to(self, size):
        """Count all things of the sizes up to one."""
        stocks = self.stocks() if self.counted <= size else []
        while self.counted <= size:
            for stock in stocks:
                many = stock.count_of(self.counted)
                if many:
                    stock.counts[self.counted] = many
            self.counted += 1
