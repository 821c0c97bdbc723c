"""Lists of clauses compared: whether two do the same, and which clauses of one can be exchanged or left out.

For each value, its choice is the ascending list of the positions of the clauses whose patterns fit it. Of a value,
nothing else matters to a list that has the same clauses in another order, or some of them alone.
"""

from firstclause.cases import Cases
from firstclause.checks import check_lists
from firstclause.search import least_in


def parting(kinds, kind, one, other):
    """The first value to which two lists of clauses give unlike labels, or None if they do the same."""
    check_lists(kinds, kind, [one, other])
    cases = Cases(kinds, kind, [one, other])
    return least_in(cases.reach, kind, cases.parted(), 0)


def swaps(kinds, kind, clauses):
    """The ascending list of the positions of the clauses that can be exchanged with the next one."""
    check_lists(kinds, kind, [clauses])
    choices = Cases(kinds, kind, [clauses]).met()
    labels = labels_of(clauses)
    # Which of two neighbours comes first matters only to values that both fit and no clause ahead of them.
    return [at for at in range(len(clauses) - 1) if labels[at] == labels[at + 1] or not begun(choices, [at, at + 1])]


def spare(kinds, kind, clauses):
    """The ascending list of the positions of the clauses that can be left out, each alone."""
    check_lists(kinds, kind, [clauses])
    choices = Cases(kinds, kind, [clauses]).met()
    labels = labels_of(clauses)
    needed = [choice[0] for choice in choices if choice and needs_first(labels, choice)]
    return [at for at in range(len(clauses)) if at not in needed]


def lean(kinds, kind, clauses):
    """A shortest ascending list of positions whose clauses alone do the same as all."""
    check_lists(kinds, kind, [clauses])
    choices = Cases(kinds, kind, [clauses]).met()
    labels = labels_of(clauses)
    many = 0
    # Each round lets one clause more, so the first list that is found is a shortest one.
    found = kept_with(labels, choices, [], many)
    while found is None:
        many += 1
        found = kept_with(labels, choices, [], many)
    return sorted(found)


def labels_of(clauses):
    """The labels of clauses."""
    return [label for _, label in clauses]


def begun(choices, positions):
    """Whether one of the choices begins with some positions."""
    return any([choice[:len(positions)] == positions for choice in choices])


def needs_first(labels, choice):
    """Whether the label that a choice gives is another one if its first clause is left out."""
    return len(choice) == 1 or labels[choice[0]] != labels[choice[1]]


def kept_with(labels, choices, kept, many):
    """Positions that do the same as all: some that are kept, and at most so many more; None if there are none."""
    for choice in choices:
        wanted = wanted_of(labels, choice, kept)
        if wanted:
            return kept_with_one(labels, choices, kept, many, wanted)
    return kept


def kept_with_one(labels, choices, kept, many, wanted):
    """What kept_with returns if one of the wanted positions has to be kept, too."""
    if many == 0:
        return None
    for at in wanted:
        found = kept_with(labels, choices, kept + [at], many - 1)
        if found is not None:
            return found
    return None


def wanted_of(labels, choice, kept):
    """The positions of a choice of which one more has to be kept for its label, none if it gets this label already."""
    wanted = []
    for at in choice:
        right = labels[at] == labels[choice[0]]
        if at in kept:
            return [] if right else wanted
        if right:
            wanted.append(at)
    return wanted
