"""How many values some states have, and which; all states belong to one kind."""

from firstclause.picks import pick


def count_in(reach, states, size):
    """How many values of some states have a size."""
    reach.count_to(size)
    return sum([state.counts.get(size, 0) for state in states])


def nth_in(reach, kind, states, size, number):
    """The value with a number among those of a size in some states, or None if there are not so many."""
    if number >= count_in(reach, states, size):
        return None
    return pick(reach, kind, size, {state: 1 for state in states}, number)[0]


def total_in(states):
    """How many values some states have, or None if they are endlessly many."""
    if any([state.total is None for state in states]):
        return None
    return sum([state.total for state in states])


def least_in(reach, kind, states, size):
    """The first value of some states whose size is greater than a size, or None if there is none."""
    # Otherwise the search would go on for ever where the states have no such value.
    if all([state.greatest is not None and state.greatest <= size for state in states]):
        return None
    size += 1
    while count_in(reach, states, size) == 0:
        size += 1
    return nth_in(reach, kind, states, size, 0)
