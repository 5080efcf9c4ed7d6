"""Edits and wishes [3], an edit beside a page [4] [5], and two edits [6]."""

from onlyforced.errors import BadEdit
from onlyforced.forms import plain_pair
from onlyforced.pages import is_sizes, made_sizes, setting_of, worth_of


def has_worth(sizes, thing):
    """Whether thing is a pair of a setting of right sizes and a worth of it."""
    return plain_pair(thing) and setting_of(sizes, thing[0]) and worth_of(sizes, thing[0], thing[1])


def edit_fault(sizes, thing):
    """What BadEdit tells of thing, None if it is an edit over right sizes."""
    if not isinstance(thing, tuple):
        return -1
    last = -1
    for index, part in enumerate(thing):
        if not has_worth(sizes, part) or part[0] <= last:
            return index
        last = part[0]
    return None


def made_edit(sizes, thing):
    """Return thing, if it is an edit over sizes."""
    fault = edit_fault(made_sizes(sizes), thing)
    if fault is not None:
        raise BadEdit(fault)
    return thing


def is_edit(sizes, thing):
    """Whether sizes are right, and thing is an edit over them."""
    return is_sizes(sizes) and edit_fault(sizes, thing) is None


def over(page, edit):
    """The page with the edit laid over it."""
    worths = list(page)
    for setting, worth in edit:
        worths[setting] = worth
    return tuple(worths)


def fits(page, edit):
    """Whether the page has all worths of the edit."""
    return all([page[setting] == worth for setting, worth in edit])


def whole(page):
    """The edit that tells all settings of the page."""
    return tuple(enumerate(page))


def cut_to(edit, lot):
    """The edit of those pairs whose settings are in the lot."""
    return tuple([(setting, worth) for setting, worth in edit if setting in lot])


def tells(edit, setting):
    """Whether the setting stands in the edit."""
    return setting in [told for told, worth in edit]


def within(one, two):
    """Whether each pair of one stands in two."""
    return all([pair in two for pair in one])


def laid(one, two):
    """The edit that tells what one or two tells, with the worth of two where both do."""
    # In a dict a later pair takes the place of an earlier one, so two comes last.
    worths = {setting: worth for setting, worth in one + two}
    return tuple(sorted(worths.items()))


def together(one, two):
    """The edit of one and two, None if they have unlike worths at a setting."""
    both = laid(one, two)
    return both if within(one, both) else None


def agreed(x, y):
    """The edit of the settings at which two pages agree."""
    return tuple([(setting, a) for setting, (a, b) in enumerate(zip(x, y)) if a == b])
