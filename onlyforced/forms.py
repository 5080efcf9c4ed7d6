"""The plain forms from which all others are built: numbers and pairs."""


def plain_number(thing):
    """Whether thing is a number: an int that is neither True nor False."""
    return type(thing) is int


def number_within(thing, low, high):
    """Whether thing is a number from low to high, both included."""
    return type(thing) is int and low <= thing <= high


def plain_pair(thing):
    """Whether thing is a tuple of two."""
    return isinstance(thing, tuple) and len(thing) == 2


def tuple_sized(thing, low, high):
    """Whether thing is a tuple of low to high parts, both included."""
    return isinstance(thing, tuple) and low <= len(thing) <= high


def rises(parts):
    """Whether each part is greater than the one ahead of it; all can be compared."""
    for one, two in zip(parts, parts[1:]):
        if one >= two:
            return False
    return True
