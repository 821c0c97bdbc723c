"""What kinds are."""

from firstclause.forms import are_unlike_names, is_filled_list, is_name, is_whole


def is_kind(kinds, thing):
    """Whether any object is the name of one of the kinds."""
    # An object that cannot be a key may not even be looked up.
    return isinstance(thing, str) and thing in kinds


def is_kinds(thing):
    """Whether any object is kinds."""
    if not isinstance(thing, dict) or not thing:
        return False
    if not all([is_name(kind) for kind in thing]):
        return False
    if not all([is_form(thing, form) for form in thing.values()]):
        return False
    return all_have_values(thing)


def is_form(kinds, thing):
    """Whether any object is what kinds tell of one of them."""
    if not isinstance(thing, tuple):
        return False
    if len(thing) == 3:
        return thing[0] == "numbers" and is_bounds(thing[1], thing[2])
    if len(thing) != 2:
        return False
    if thing[0] == "words":
        return is_filled_list(thing[1]) and are_unlike_names(thing[1])
    if thing[0] == "makers":
        return is_filled_list(thing[1]) and are_makers(kinds, thing[1])
    return thing[0] == "rows" and is_kind(kinds, thing[1])


def is_bounds(low, high):
    """Whether two objects are whole numbers, the first at most the second."""
    return is_whole(low) and is_whole(high) and low <= high


def are_makers(kinds, things):
    """Whether the objects of a list are makers with their parts."""
    if not all([is_maker(kinds, thing) for thing in things]):
        return False
    return are_unlike_names([thing[0] for thing in things])


def is_maker(kinds, thing):
    """Whether any object is a tuple of two, the second one a list of kinds."""
    if not isinstance(thing, tuple) or len(thing) != 2 or not isinstance(thing[1], list):
        return False
    return all([is_kind(kinds, part) for part in thing[1]])


def all_have_values(kinds):
    """Whether each kind has a value that is built in finitely many steps."""
    built = []
    # Each round finds one kind more at least, or none is left to be found.
    for _ in kinds:
        built = [kind for kind in kinds if can_be_built(kinds[kind], built)]
    return len(built) == len(kinds)


def can_be_built(form, built):
    """Whether a kind of this form has a value if each of the kinds that are built has one."""
    if form[0] != "makers":
        return True
    return any([all([part in built for part in parts]) for _, parts in form[1]])


def parts_of(makers, maker):
    """The kinds of the parts of a maker, or None if the object is none of the makers."""
    for name, parts in makers:
        if name == maker:
            return parts
    return None
