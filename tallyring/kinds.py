"""What kind of value a thing is."""


def is_number(thing):
    # Python counts True and False among its integers, the document doesn't.
    return isinstance(thing, int) and not isinstance(thing, bool)


def is_number_tuple(thing):
    return isinstance(thing, tuple) and all([is_number(part) for part in thing])


def is_number_list(thing):
    return isinstance(thing, list) and all([is_number(part) for part in thing])


def is_pair_list(thing):
    """Whether it's a list of pairs of numbers."""
    if not isinstance(thing, list):
        return False
    return all([is_number_tuple(pair) and len(pair) == 2 for pair in thing])
