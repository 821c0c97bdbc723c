"""What several tests share: kinds, a slow and plain list of their values, and checks of errors."""

from functools import cmp_to_key
from itertools import product

# The kinds and clauses of the examples of the document.
GARDEN = {
    "tree": ("makers", [("leaf", ["small"]), ("fork", ["tree", "tree"])]),
    "small": ("numbers", 1, 3),
    "list": ("rows", "small"),
}
DEEP = ("maker", "fork", [("maker", "fork", [None, None]), None])
GARDEN_CLAUSES = [
    (DEEP, "deep"),
    (("maker", "fork", [None, ("maker", "leaf", [("from", 2, None)])]), "right"),
    (("maker", "leaf", [None]), "leaf"),
]
# Each of the four forms, holding one another and themselves, with parts and cells of unlike sizes.
MIXED = {
    "term": ("makers", [("zip", []), ("call", ["word", "args"]), ("add", ["term", "num"]), ("end", [])]),
    "args": ("rows", "term"),
    "word": ("words", ["y", "x"]),
    "num": ("numbers", -1, 1),
}
NEST = {"nest": ("rows", "nest")}
GRID = {"grid": ("rows", "line"), "line": ("rows", "bit"), "bit": ("words", ["one", "nil"])}
PAIRS = {
    "pair": ("makers", [("pair", ["line", "line"]), ("line", ["line"])]),
    "line": ("rows", "digit"),
    "digit": ("numbers", 4, 5),
}
LONG = {"row": ("rows", "digit"), "digit": ("numbers", 0, 10 ** 20 - 1)}

# Objects of every sort, hashable or not, nested or not; none of them is kinds.
ODD_OBJECTS = [
    None, True, False, 0, 1, -1, 10 ** 30, "", "a", "Tree", "tree ", "leaf", "no such", [], (), {}, [[]], ([],), [{}],
    ({},), [None], (None,), {"a": []}, {(): {}}, {1: 2}, ["tree"], ("tree",), {"tree": None}, [1, [2, [3, {}]]],
    ("leaf", ["small"]), ("or", [None]), [("leaf", 1)],
]
NO_COUNTS = [None, True, False, -1, -10 ** 29, "", "1", [], [1], (), (1,), {}, {1: 1}, [[{}]]]
NO_CLAUSES = [odd for odd in ODD_OBJECTS if odd != []] + [[(None, "A")], ((None, "a"),), [[None, "a"]]]


def values_of_size(kinds, kind, size):
    """All values of a size in the order of the document, found by listing and sorting them."""
    found = unsorted_values(kinds, kind, size)
    return sorted(found, key=cmp_to_key(lambda one, other: compared(kinds, kind, one, other)))


def unsorted_values(kinds, kind, size):
    form = kinds[kind]
    if size < 1:
        return []
    if form[0] == "numbers":
        return list(range(form[1], form[2] + 1)) if size == 1 else []
    if form[0] == "words":
        return list(form[1]) if size == 1 else []
    if form[0] == "makers":
        return [(maker,) + parts for maker, held in form[1] for parts in choices(kinds, held, size - 1)]
    return [list(cells) for many in range(size) for cells in choices(kinds, [form[1]] * many, size - 1)]


def choices(kinds, held, size):
    """All tuples of values of some kinds whose sizes together are a size."""
    found = []
    for sizes in product(range(1, size + 1), repeat=len(held)):
        if sum(sizes) == size:
            found.extend(product(*[unsorted_values(kinds, kind, own) for kind, own in zip(held, sizes)]))
    return found


def plain_size(value):
    if isinstance(value, tuple):
        return 1 + sum(plain_size(part) for part in value[1:])
    if isinstance(value, list):
        return 1 + sum(plain_size(cell) for cell in value)
    return 1


def compared(kinds, kind, one, other):
    """Below 0, 0 or above 0, as one value stands ahead of the other, is equal to it, or stands behind it."""
    if plain_size(one) != plain_size(other):
        return plain_size(one) - plain_size(other)
    form = kinds[kind]
    if form[0] == "numbers":
        return one - other
    if form[0] == "words":
        return form[1].index(one) - form[1].index(other)
    held = [form[1]] * max(len(one), len(other))
    if form[0] == "makers":
        makers = [maker for maker, _ in form[1]]
        if one[0] != other[0]:
            return makers.index(one[0]) - makers.index(other[0])
        held = form[1][makers.index(one[0])][1]
        one, other = one[1:], other[1:]
    for inner, first, second in zip(held, one, other):
        if first != second:
            return compared(kinds, inner, first, second)
    return 0


def assert_same(case, found, expected):
    """Assert that two results are equal, True and 1 and a tuple and a list not being so."""
    case.assertEqual(found, expected)
    case.assertEqual(repr(found), repr(expected))


def spoil(thing):
    """Change each list and each dictionary in an object."""
    for inner in list(thing.values()) if isinstance(thing, dict) else thing:
        if isinstance(inner, (list, tuple, dict)):
            spoil(inner)
    if isinstance(thing, list):
        thing.append(None)
    if isinstance(thing, dict):
        thing["spoilt"] = None


def assert_raises(case, error, field, function, arguments):
    """Assert that a call raises just this error with this very object, and changes no argument."""
    ahead = repr(arguments)
    with case.assertRaises(error) as caught:
        function(*arguments)
    case.assertIs(type(caught.exception), error)
    case.assertIs(caught.exception.value, field)
    case.assertEqual(repr(arguments), ahead)


def assert_each_wrong(case, function, parameters):
    """Assert which error each argument raises, alone and with wrong ones behind it.

    parameters has for each one a good object, the bad ones and the error.
    """
    good = [parameter[0] for parameter in parameters]
    for at, (_, bad_ones, error) in enumerate(parameters):
        for bad in bad_ones:
            with case.subTest(function=function.__name__, parameter=at, bad=bad):
                assert_raises(case, error, bad, function, good[:at] + [bad] + good[at + 1:])
                for turn in range(3):
                    behind = [wrong[turn % len(wrong)] for _, wrong, _ in parameters[at + 1:]]
                    assert_raises(case, error, bad, function, good[:at] + [bad] + behind)
