"""What sort of thing was handed in, asked without ever failing; and tuples with one thing otherwise."""


def is_whole(thing):
    # Python counts True and False among its ints; the document does not.
    return isinstance(thing, int) and not isinstance(thing, bool)


def is_whole_within(thing, least, most):
    return is_whole(thing) and least <= thing <= most


def is_tuple_within(thing, least, most):
    return isinstance(thing, tuple) and least <= len(thing) <= most


def with_at(row, at, thing):
    return row[:at] + (thing,) + row[at + 1:]
