"""What whole numbers, counts and names are, whether nested things have the right form, and copies of them."""


def is_whole(thing):
    """Whether any object is a whole number."""
    # For Python, True and False are integers, too.
    return isinstance(thing, int) and not isinstance(thing, bool)


def is_count(thing):
    """Whether any object is a count."""
    return is_whole(thing) and thing >= 0


def is_name(thing):
    """Whether any object is a name."""
    if not isinstance(thing, str) or not 1 <= len(thing) <= 10:
        return False
    return all(["a" <= sign <= "z" for sign in thing])


def is_filled_list(thing):
    """Whether any object is a list that is not empty."""
    return isinstance(thing, list) and len(thing) > 0


def are_unlike_names(things):
    """Whether the objects of a list are names, no two of them equal."""
    return all([is_name(thing) for thing in things]) and len(set(things)) == len(things)


def is_sound(kinds, kind, thing, within):
    """Whether any object, and all that it holds, has the form that its kind asks for.

    within(kinds, kind, thing) returns the list of what stands right within a thing, each with its kind,
    or None if the form of the thing itself is wrong.
    """
    # A list of what waits, not recursion: any object may be passed, however deep it is.
    waiting = [(kind, thing)]
    while waiting:
        inner_kind, inner = waiting.pop()
        held = within(kinds, inner_kind, inner)
        if held is None:
            return False
        waiting.extend(held)
    return True


def copied(thing):
    """A copy of an object, all lists and dictionaries within it new."""
    if isinstance(thing, list):
        return [copied(inner) for inner in thing]
    if isinstance(thing, tuple):
        return tuple([copied(inner) for inner in thing])
    if isinstance(thing, dict):
        return {key: copied(inner) for key, inner in thing.items()}
    return thing
