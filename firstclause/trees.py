"""What values are, and how great."""

from firstclause.forms import is_whole
from firstclause.kinds import parts_of


def values_within(kinds, kind, thing):
    """What stands right within a value, each with its kind, or None if the object is no value of the kind."""
    form = kinds[kind]
    if form[0] == "numbers":
        return [] if is_whole(thing) and form[1] <= thing <= form[2] else None
    if form[0] == "words":
        return [] if thing in form[1] else None
    if form[0] == "makers":
        return parts_within(form[1], thing)
    return [(form[1], cell) for cell in thing] if isinstance(thing, list) else None


def parts_within(makers, thing):
    """The parts of a tuple of a maker, each with its kind, or None if the object is no such tuple."""
    if not isinstance(thing, tuple) or not thing:
        return None
    parts = parts_of(makers, thing[0])
    if parts is None or len(thing) != len(parts) + 1:
        return None
    return list(zip(parts, thing[1:]))


def size_of_tree(value):
    """The size of a value: one for itself and one for each value within it."""
    size = 0
    waiting = [value]
    while waiting:
        inner = waiting.pop()
        size += 1
        if isinstance(inner, tuple):
            waiting.extend(inner[1:])
        elif isinstance(inner, list):
            waiting.extend(inner)
    return size
