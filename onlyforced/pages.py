"""Sizes, settings and lots [1], pages [2], and what two or three pages tell [4].

Several worths, each of some setting, are kept together as one number, a mask: its bit number
spot_of(i, a) tells whether the worth a of the setting i is among them.
"""

from onlyforced.errors import BadLot, BadPage, BadSetting, BadSizes
from onlyforced.forms import number_within, rises, tuple_sized

MOST_SETTINGS = 24
MOST_WORTHS = 6


def sizes_fault(thing):
    """What BadSizes tells of thing, None if it is sizes."""
    if not tuple_sized(thing, 1, MOST_SETTINGS):
        return -1
    for index, many in enumerate(thing):
        if not number_within(many, 1, MOST_WORTHS):
            return index
    return None


def made_sizes(thing):
    """Return thing, if it is sizes."""
    fault = sizes_fault(thing)
    if fault is not None:
        raise BadSizes(fault)
    return thing


def is_sizes(thing):
    """Whether thing is sizes."""
    return sizes_fault(thing) is None


def setting_of(sizes, thing):
    """Whether thing is a setting of right sizes."""
    return type(thing) is int and 0 <= thing < len(sizes)


def worth_of(sizes, setting, thing):
    """Whether thing is a worth of a setting of right sizes."""
    return type(thing) is int and 0 <= thing < sizes[setting]


def made_setting(sizes, thing):
    """Return thing, if it is a setting of right sizes."""
    if not setting_of(sizes, thing):
        raise BadSetting(thing)
    return thing


def settings_rise(sizes, thing):
    """Whether thing is a rising tuple of settings of right sizes, perhaps ()."""
    if not isinstance(thing, tuple):
        return False
    # The parts are compared only once all are settings: others may have no order.
    return all([setting_of(sizes, part) for part in thing]) and rises(thing)


def lot_of(sizes, thing):
    """Whether thing is a lot of settings of right sizes."""
    return settings_rise(sizes, thing) and len(thing) > 0


def made_lot(sizes, thing):
    """Return thing, if it is a lot of settings of right sizes."""
    if not lot_of(sizes, thing):
        raise BadLot(-1)
    return thing


def page_fault(sizes, thing):
    """What BadPage tells of thing, None if it is a page over right sizes."""
    if not tuple_sized(thing, len(sizes), len(sizes)):
        return -1
    for setting, worth in enumerate(thing):
        if not worth_of(sizes, setting, worth):
            return setting
    return None


def made_page(sizes, thing):
    """Return thing, if it is a page over sizes."""
    fault = page_fault(made_sizes(sizes), thing)
    if fault is not None:
        raise BadPage(fault)
    return thing


def is_page(sizes, thing):
    """Whether sizes are right, and thing is a page over them."""
    return is_sizes(sizes) and page_fault(sizes, thing) is None


def changed(x, y):
    """The settings at which two pages differ, rising."""
    return tuple([setting for setting, (a, b) in enumerate(zip(x, y)) if a != b])


def move(x, y, z):
    """The page with the worths of x where x and y agree, and of z elsewhere."""
    return tuple([a if a == b else c for a, b, c in zip(x, y, z)])


def spot_of(setting, worth):
    """The number of the bit that tells of this worth of the setting."""
    return setting * MOST_WORTHS + worth


def mask_of(setting, worths):
    """The mask of these worths of the setting."""
    mask = 0
    for worth in worths:
        mask |= 1 << worth
    return mask << spot_of(setting, 0)


def rows_of(sizes):
    """For each setting the mask of all its worths."""
    return [((1 << many) - 1) << spot_of(setting, 0) for setting, many in enumerate(sizes)]
