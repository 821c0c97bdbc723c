"""The values of some states in their order: which has a number, and which number a value has.

A state that is asked for has a weight: a value counts as often as the weight of its state says. So a part can be found
by its number among all choices that begin with it: its weight is how many choices there are for the parts behind it.
"""

from firstclause.trees import size_of_tree


def pick(reach, kind, size, weights, number):
    """The value of a size with a number, which is less than how many there are; these are counted up to the size.

    weights has the states that are asked for. Returns the value, its state, and what is left of the number
    among the times that this value counts.
    """
    for leaf, state in reach.leaves[kind]:
        weight = weights.get(state, 0)
        if number < leaf.many * weight:
            ahead, number = divmod(number, weight)
            return leaf.value_at(ahead), state, number
        number -= leaf.many * weight
    for maker, place in reach.places[kind]:
        many = sum([rest.counts.get(size - 1, 0) * weights.get(rest.state, 0) for rest in place.rests.values()])
        if number < many:
            parts, state, number = pick_parts(reach, place, size - 1, weights, number)
            return parts if maker is None else (maker, *parts), state, number
        number -= many
    return None


def pick_parts(reach, place, size, weights, number):
    """The parts with a number among the choices of a size for a first place and those behind it.

    Returns their list, the state of the value that is made of them, and what is left of the number.
    """
    parts = []
    # What can follow the parts chosen so far, each with the state of the whole value that comes of it.
    goals = {rest: rest.state for rest in place.rests.values() if rest.state in weights}
    while size > 0:
        first, share_weights, number = pick_size(goals, size, weights, number)
        part_weights = {state: share_weights[share] for share in share_weights for state in share.held}
        part, state, number = pick(reach, place.link.kind, first, part_weights, number)
        parts.append(part)
        share = place.share_by_state[state]
        goals = {behind: whole for rest, whole in goals.items() if share in rest.pairs
                 for behind in rest.pairs[share].held}
        size -= first
        place = place.behind
    ended = [whole for rest, whole in goals.items() if rest.ends]
    return parts, ended[0], number


def pick_size(goals, size, weights, number):
    """The size of the next part, the weights of its shares, and the number among the choices with this size."""
    first = 1
    share_weights = weights_behind(goals, size - first, weights)
    many = count_shares(share_weights, first)
    while number >= many:
        number -= many
        first += 1
        share_weights = weights_behind(goals, size - first, weights)
        many = count_shares(share_weights, first)
    return first, share_weights, number


def weights_behind(goals, size, weights):
    """How often the choices count that can follow each share and have a size together."""
    found = {}
    for rest, whole in goals.items():
        for share, behind in rest.pairs.items():
            if size in behind.counts:
                found[share] = found.get(share, 0) + behind.counts[size] * weights[whole]
    return found


def count_shares(share_weights, size):
    """How often the values of a size in some shares count."""
    return sum([share.counts.get(size, 0) * weight for share, weight in share_weights.items()])


def number_of(reach, kind, value):
    """The number of a value among all values of its size; these are counted up to the size."""
    form = reach.catalog.kinds[kind]
    if form[0] == "numbers":
        return value - form[1]
    if form[0] == "words":
        return form[1].index(value)
    maker, parts = (None, value) if form[0] == "rows" else (value[0], value[1:])
    size = size_of_tree(value) - 1
    ahead = 0
    for own, place in reach.places[kind]:
        if own == maker:
            return ahead + number_of_parts(reach, place, size, parts)
        ahead += count_all(place.rests, size)
    return None


def number_of_parts(reach, place, size, parts):
    """The number of parts among all choices of their size for a first place and those behind it."""
    ahead = 0
    for part in parts:
        own = size_of_tree(part)
        behind = place.behind.rests
        ahead += sum([count_all(place.shares, first) * count_all(behind, size - first) for first in range(1, own)])
        size -= own
        ahead += number_of(reach, place.link.kind, part) * count_all(behind, size)
        place = place.behind
    return ahead


def count_all(stocks, size):
    """How many things of a size there are in some stocks, which stand under their masks."""
    return sum([stock.counts.get(size, 0) for stock in stocks.values()])
