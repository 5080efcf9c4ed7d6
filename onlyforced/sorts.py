"""The sorts of pairs [9]: free, tied, either."""

from onlyforced.errors import BadPairs
from onlyforced.forms import plain_number, plain_pair, rises


def _number_pair(thing):
    """Whether thing is a pair of numbers from 0 on."""
    if not plain_pair(thing):
        return False
    return all([plain_number(part) and part >= 0 for part in thing])


def _are_pairs(thing):
    """Whether thing is a rising tuple of one or more pairs of numbers from 0 on."""
    if not isinstance(thing, tuple) or not thing:
        return False
    # The parts are compared only once all are pairs of numbers: others may have no order.
    return all([_number_pair(part) for part in thing]) and rises(thing)


def _counts(numbers):
    """Each of the numbers once, with how often it stands there, rising."""
    counts = []
    # Sorted instead of kept by key, as many great numbers can share one hash.
    for number in sorted(numbers):
        if counts and counts[-1][0] == number:
            counts[-1][1] += 1
        else:
            counts.append([number, 1])
    return counts


def _counted(counts, many):
    """The least number that stands there many times, None if there is none."""
    for number, count in counts:
        if count == many:
            return number
    return None


def _either(firsts, seconds):
    """The sort either of as many pairs as it would have, None if it does not fit.

    Pairs with a ahead or b behind are one less than all firsts and all seconds together. So
    where there are just so many, and a stands with all seconds and b with all firsts, no other
    pair is left.
    """
    a = _counted(firsts, len(seconds))
    b = _counted(seconds, len(firsts))
    if a is None or b is None:
        return None
    return ("either", a, b)


def sort_of(pairs):
    """The first sort that fits the pairs, None if none does."""
    if not _are_pairs(pairs):
        raise BadPairs(-1)
    firsts = _counts([pair[0] for pair in pairs])
    seconds = _counts([pair[1] for pair in pairs])
    many = len(pairs)
    if many == len(firsts) * len(seconds):
        return ("free",)
    if many == len(firsts) and many == len(seconds):
        return ("tied",)
    if many == len(firsts) + len(seconds) - 1:
        return _either(firsts, seconds)
    return None
