"""What kind of value a thing is."""


def is_number(thing):
    # Python counts True and False among its integers, the document doesn't.
    return isinstance(thing, int) and not isinstance(thing, bool)


def is_number_tuple(thing):
    return isinstance(thing, tuple) and all([is_number(part) for part in thing])
