"""Slow and plain ways to find out what the program tells: searches through all small values, checks word by word."""

from itertools import product

from firstclause.kinds import is_kinds
from tests.support import values_of_size


def plain_fits(pattern, value):
    """Whether a pattern fits a value, as the document says it."""
    if pattern is None:
        return True
    name = pattern[0]
    if name == "or":
        return any(plain_fits(choice, value) for choice in pattern[1])
    if name == "from":
        return (pattern[1] is None or value >= pattern[1]) and (pattern[2] is None or value <= pattern[2])
    if name == "word":
        return value == pattern[1]
    if name == "maker":
        return value[0] == pattern[1] and all(map(plain_fits, pattern[2], value[1:]))
    if name == "row":
        return len(value) == len(pattern[1]) and all(map(plain_fits, pattern[1], value))
    ahead, behind = pattern[1:]
    if len(value) < len(ahead) + len(behind):
        return False
    return all(map(plain_fits, ahead, value)) and all(map(plain_fits, behind[::-1], value[::-1]))


def plain_taker(clauses, value):
    for at, (pattern, _) in enumerate(clauses):
        if plain_fits(pattern, value):
            return at
    return None


def plain_label(clauses, value):
    at = plain_taker(clauses, value)
    return None if at is None else clauses[at][1]


def values_up_to(kinds, kind, size):
    return [value for own in range(size + 1) for value in values_of_size(kinds, kind, own)]


def unlike_patterns(kinds, kind, pattern):
    """A pattern and all within it, each with its kind."""
    found = [(kind, pattern)]
    form = kinds[kind]
    if pattern is None or pattern[0] in ("from", "word"):
        return found
    if pattern[0] == "or":
        held = [(kind, choice) for choice in pattern[1]]
    elif pattern[0] == "maker":
        held = list(zip(dict(form[1])[pattern[1]], pattern[2]))
    else:
        held = [(form[1], inner) for cells in pattern[1:] for inner in cells]
    for inner_kind, inner in held:
        found.extend(unlike_patterns(kinds, inner_kind, inner))
    return found


def same(one, other):
    return repr(one) == repr(other)


def stands_in(pattern, patterns):
    return any(same(pattern, other) for other in patterns)


ALL_ROWS = ("gap", [], [])


def grants(true, pattern):
    """Whether a line with these patterns as fitting ones grants a pattern."""
    if pattern is None or same(pattern, ALL_ROWS) or stands_in(pattern, true):
        return True
    return pattern[0] == "or" and any(grants(true, choice) for choice in pattern[1])


def denies(false, pattern):
    """Whether a line with these patterns as not fitting ones denies a pattern."""
    if pattern is None:
        return False
    return stands_in(pattern, false) or pattern[0] == "or" and all(denies(false, choice) for choice in pattern[1])


def maker_shows(maker, lines, pattern):
    if pattern is None:
        return True
    if pattern[0] == "or":
        return any(maker_shows(maker, lines, choice) for choice in pattern[1])
    return pattern[1] == maker and all(grants(true, inner) for (true, _), inner in zip(lines, pattern[2]))


def maker_shows_false(maker, lines, pattern):
    if pattern is None:
        return False
    if pattern[0] == "or":
        return all(maker_shows_false(maker, lines, choice) for choice in pattern[1])
    return pattern[1] != maker or any(denies(false, inner) for (_, false), inner in zip(lines, pattern[2]))


def row_shows(cell, rest, pattern):
    if pattern is None or same(pattern, ALL_ROWS):
        return True
    if pattern[0] == "or":
        return any(row_shows(cell, rest, choice) for choice in pattern[1])
    if pattern[0] == "row":
        return pattern[1] != [] and grants(cell[0], pattern[1][0]) and grants(rest[0], ("row", pattern[1][1:]))
    _, ahead, behind = pattern
    if ahead:
        return grants(cell[0], ahead[0]) and grants(rest[0], ("gap", ahead[1:], behind))
    return grants(rest[0], pattern) or grants(cell[0], behind[0]) and grants(rest[0], ("row", behind[1:]))


def row_shows_false(cell, rest, pattern):
    if pattern is None or same(pattern, ALL_ROWS):
        return False
    if pattern[0] == "or":
        return all(row_shows_false(cell, rest, choice) for choice in pattern[1])
    if pattern[0] == "row":
        return pattern[1] == [] or denies(cell[1], pattern[1][0]) or denies(rest[1], ("row", pattern[1][1:]))
    _, ahead, behind = pattern
    if ahead:
        return denies(cell[1], ahead[0]) or denies(rest[1], ("gap", ahead[1:], behind))
    return denies(rest[1], pattern) and (denies(cell[1], behind[0]) or denies(rest[1], ("row", behind[1:])))


def is_right(line, value):
    true, false = line
    return all(plain_fits(inner, value) for inner in true) and not any(plain_fits(inner, value) for inner in false)


def probes(kinds, kind, lines):
    """Numbers or words of a kind, among them one for each set of patterns that fit one."""
    form = kinds[kind]
    if form[0] == "words":
        return form[1]
    points = {form[1], form[2]}
    for line in lines:
        for pattern in line[0] + line[1]:
            for _, inner in unlike_patterns(kinds, kind, pattern):
                if inner is not None and inner[0] == "from":
                    points.update(bound + step for bound in inner[1:] if bound is not None for step in (-1, 0, 1))
    return [point for point in points if form[1] <= point <= form[2]]


def kind_is_shown(kinds, kind, told):
    """Whether the lines of a kind, pairs of lists of patterns, hold for all its values."""
    form, lines = kinds[kind], told[kind]
    if form[0] in ("numbers", "words"):
        return all(any(is_right(line, value) for line in lines) for value in probes(kinds, kind, lines))
    if form[0] == "makers":
        return all(
            any(all(maker_shows(maker, chosen, inner) for inner in true)
                and all(maker_shows_false(maker, chosen, inner) for inner in false) for true, false in lines)
            for maker, parts in form[1] for chosen in product(*[told[part] for part in parts]))
    if not any(is_right(line, []) for line in lines):
        return False
    return all(
        any(all(row_shows(cell, rest, inner) for inner in true)
            and all(row_shows_false(cell, rest, inner) for inner in false) for true, false in lines)
        for cell in told[form[1]] for rest in lines)


def plain_check_table(kinds, kind, clauses, lines):
    """Whether lists of lines of patterns for each kind are a table."""
    heads = [pattern for pattern, _ in clauses]
    told = {each: [(line, []) for line in lines[each]] for each in kinds}
    if not all(any(stands_in(pattern, heads) for pattern in line) for line in lines[kind]):
        return False
    return all(kind_is_shown(kinds, each, told) for each in kinds)


def plain_decides(clauses, line):
    """The label that a line gives, in a list, or an empty list."""
    for pattern, label in clauses:
        if grants(line[0], pattern):
            return [label]
        if not denies(line[1], pattern):
            return []
    return [None]


def plain_check_sheet(kinds, kind, one, other, lines):
    """Whether lists of lines of patterns with truths for each kind are a sheet."""
    told = {each: [([inner for inner, truth in line if truth], [inner for inner, truth in line if not truth])
                   for line in lines[each]] for each in kinds}
    for line in told[kind]:
        if plain_decides(one, line) == [] or plain_decides(one, line) != plain_decides(other, line):
            return False
    return all(kind_is_shown(kinds, each, told) for each in kinds)


def any_pattern(random, kinds, kind, depth):
    """A pattern of a kind that a source of random numbers makes."""
    chosen = random.random()
    if chosen < 0.2 or depth == 0:
        return None if chosen < 0.1 or depth > 0 else flat_pattern(random, kinds, kind)
    if chosen < 0.35:
        return ("or", [any_pattern(random, kinds, kind, depth - 1) for _ in range(random.randint(1, 3))])
    form = kinds[kind]
    if form[0] in ("numbers", "words"):
        return flat_pattern(random, kinds, kind)
    if form[0] == "makers":
        maker, parts = random.choice(form[1])
        return ("maker", maker, [any_pattern(random, kinds, part, depth - 1) for part in parts])
    cells = [any_pattern(random, kinds, form[1], depth - 1) for _ in range(random.choice((0, 1, 1, 2, 3)))]
    if random.random() < 0.4:
        return ("row", cells)
    cut = random.randint(0, len(cells))
    return ("gap", cells[:cut], cells[cut:])


def flat_pattern(random, kinds, kind):
    """A pattern that holds no other ones but None."""
    form = kinds[kind]
    if form[0] == "numbers":
        low, high = (random.choice((None, random.randint(form[1] - 1, form[2] + 1))) for _ in range(2))
        return ("from", low, high)
    if form[0] == "words":
        return ("word", random.choice(form[1]))
    if form[0] == "makers":
        maker, parts = random.choice(form[1])
        return ("maker", maker, [None] * len(parts))
    return random.choice((("row", []), ("row", [None]), ("gap", [None], []), ("gap", [], [None]), ALL_ROWS))


def any_clauses(random, kinds, kind, depth, labels="abc"):
    return [(any_pattern(random, kinds, kind, depth), random.choice(labels)) for _ in range(random.randint(0, 4))]


def any_kinds(random):
    """Kinds of some of the four forms that hold one another."""
    while True:
        names = random.sample(["a", "b", "c", "d", "tree"], random.randint(1, 4))
        kinds = {name: any_form(random, names) for name in names}
        if is_kinds(kinds):
            return kinds


def any_form(random, names):
    name = random.choice(["numbers", "words", "makers", "makers", "rows", "rows"])
    if name == "numbers":
        low = random.randint(-3, 3)
        return (name, low, low + random.randint(0, 3))
    if name == "words":
        return (name, random.sample(["p", "q", "r"], random.randint(1, 3)))
    if name == "rows":
        return (name, random.choice(names))
    return (name, [(maker, [random.choice(names) for _ in range(random.choice((0, 1, 2, 2)))])
                   for maker in random.sample(["m", "n", "o"], random.randint(1, 3))])


def turned(kinds):
    """The same kinds, put into their dictionary the other way round."""
    return {kind: kinds[kind] for kind in reversed(kinds)}


def change_lines(random, kinds, lines, with_truths):
    """Leave out, put in, exchange or double a line or what stands in one, patterns with truths or patterns alone."""
    def entry(pattern):
        return (pattern, random.random() < 0.5) if with_truths else pattern

    kind = random.choice(sorted(kinds))
    chosen = random.randrange(8)
    if chosen == 0:
        lines[kind].append([entry(any_pattern(random, kinds, kind, 2)) for _ in range(random.randint(0, 2))])
    if not lines[kind]:
        return
    at = random.randrange(len(lines[kind]))
    line = lines[kind][at]
    if chosen == 1:
        lines[kind].pop(at)
    elif chosen == 2:
        lines[kind].append(list(line))
    elif chosen == 3:
        line.append(entry(any_pattern(random, kinds, kind, 2)))
    elif line:
        old = line.pop(random.randrange(len(line)))
        pattern = old[0] if with_truths else old
        if chosen == 5:
            line.append(entry(pattern))
        elif chosen == 6:
            line.append(entry(any_pattern(random, kinds, kind, 1)))
        elif chosen == 7:
            line.append(entry(("or", [any_pattern(random, kinds, kind, 1), pattern])))
