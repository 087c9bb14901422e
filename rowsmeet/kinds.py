"""The kinds of values that all modules ask for, and copies of any value."""


def is_number(thing):
    """Whether the value is an int that is not a bool."""
    return isinstance(thing, int) and not isinstance(thing, bool)


def is_count(thing):
    """Whether the value is a number from 0 on."""
    return is_number(thing) and thing >= 0


def is_index(thing, many):
    """Whether the value is the number of one of so many things, counted from 0."""
    return is_count(thing) and thing < many


def are_indexes(thing, many):
    """Whether the value is a tuple of such numbers, in any order, perhaps with repetitions."""
    return isinstance(thing, tuple) and all([is_index(part, many) for part in thing])


def is_list(thing):
    """Whether the value can stand where a list is expected: a tuple is accepted, too."""
    return isinstance(thing, (list, tuple))


def copied(thing):
    """The value, with lists and dicts of its own, also within tuples."""
    if isinstance(thing, list):
        return [copied(part) for part in thing]
    if isinstance(thing, tuple):
        return tuple([copied(part) for part in thing])
    if isinstance(thing, dict):
        return {key: copied(thing[key]) for key in thing}
    return thing
