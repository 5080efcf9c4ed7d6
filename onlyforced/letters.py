"""Stamps, entries and rows [39], and the letters in which they go [40]."""

from onlyforced.edits import has_worth
from onlyforced.errors import BadLetter, BadRow
from onlyforced.forms import number_within, plain_number, plain_pair, tuple_sized
from onlyforced.pages import lot_of, made_lot, made_sizes

MOST_HOUSE = 99


def house_number(thing):
    """Whether thing is the number of a house."""
    return number_within(thing, 0, MOST_HOUSE)


def plain_stamp(thing):
    """Whether thing is a stamp."""
    return plain_pair(thing) and plain_number(thing[0]) and thing[0] >= 0 and house_number(thing[1])


def entry_of(sizes, thing):
    """Whether thing is an entry over right sizes."""
    return tuple_sized(thing, 3, 3) and has_worth(sizes, thing[:2]) and plain_stamp(thing[2])


def must_be_row(sizes, lot, thing):
    """Refuse what is no row over a lot of right sizes."""
    if not tuple_sized(thing, len(lot), len(lot)):
        raise BadRow(-1)
    for index, setting in enumerate(lot):
        if not entry_of(sizes, thing[index]) or thing[index][0] != setting:
            raise BadRow(index)


def made_row(sizes, lot, thing):
    """Return thing, if it is a row over the lot."""
    must_be_row(made_sizes(sizes), made_lot(sizes, lot), thing)
    return thing


def must_be_letter(sizes, thing):
    """Refuse what is no letter over right sizes."""
    if not plain_pair(thing) or not lot_of(sizes, thing[0]) or not isinstance(thing[1], tuple):
        raise BadLetter(-1)
    span, entries = thing
    last = -1
    for index, entry in enumerate(entries):
        if not entry_of(sizes, entry) or entry[0] not in span or entry[0] <= last:
            raise BadLetter(index)
        last = entry[0]


def made_letter(sizes, thing):
    """Return thing, if it is a letter."""
    must_be_letter(made_sizes(sizes), thing)
    return thing
