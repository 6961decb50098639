"""Plain checks of values that may be anything, and small helpers over lists."""


def is_between(value, low, high):
    """Whether a value is a whole from low to high: True and False are none."""
    return type(value) is int and low <= value <= high


def is_from(value, low):
    return type(value) is int and low <= value


def is_row(value):
    """Whether a value can stand where a list is expected."""
    return type(value) is list or type(value) is tuple


def is_tuple(value, least, most):
    return type(value) is tuple and least <= len(value) <= most


def is_among(value, names):
    """Whether a value is one of some strings; it may be one that no dict could look up."""
    return type(value) is str and value in names


def is_one(value, choices):
    """Whether a value is one of some choices, with True and False unlike 1 and 0."""
    for choice in choices:
        if type(value) is type(choice) and value == choice:
            return True
    return False


def is_ascending(row):
    """Whether each item of a row is less than the next one: so they are unlike, too."""
    return all([row[at] < row[at + 1] for at in range(len(row) - 1)])


def are_unlike(row):
    """Whether no item comes twice; the items are strings, wholes and tuples of such."""
    return len(set(row)) == len(row)


def are_wholes(row, low, high):
    return all([is_between(item, low, high) for item in row])


def are_indexes(row, many):
    """Whether a row holds just ascending numbers from 0 that are below many."""
    return are_wholes(row, 0, many - 1) and is_ascending(row)


def lots_below(many):
    """All lots of the numbers below many: tuples, by their lengths, then ascending."""
    found = [()]
    layer = [()]
    while layer:
        layer = [lot + (at,) for lot in layer for at in range(lot[-1] + 1 if lot else 0, many)]
        found = found + layer
    return found
