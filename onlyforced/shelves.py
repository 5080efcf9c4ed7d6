"""Shelves, which keep a row so that it can be cut off between any two writes [45]."""

from onlyforced.errors import BadRow, BadWrite
from onlyforced.forms import number_within, tuple_sized
from onlyforced.letters import entry_of
from onlyforced.pages import MOST_SETTINGS, MOST_WORTHS


def _entry_right(thing):
    """Whether thing is an entry of some sizes: a shelf knows none."""
    return entry_of((MOST_WORTHS,) * MOST_SETTINGS, thing)


def _place_right(thing):
    """Whether thing is a place."""
    return number_within(thing, 0, 1)


def _row_fault(thing):
    """What BadRow tells of thing, None if a shelf can keep it."""
    if not isinstance(thing, tuple) or not thing:
        return -1
    last = -1
    for index, entry in enumerate(thing):
        if not _entry_right(entry) or entry[0] <= last:
            return index
        last = entry[0]
    return None


class Shelf:
    """Two places with a cell for each entry of a row, and a mark on one of them."""

    def __init__(self, row):
        fault = _row_fault(row)
        if fault is not None:
            raise BadRow(fault)
        self._settings = tuple([setting for setting, worth, stamp in row])
        self._mark = 0
        self._cells = [list(row), [None for _ in row]]

    def steps(self, row):
        """The writes that keep another row over the same settings."""
        if _row_fault(row) is not None or tuple([entry[0] for entry in row]) != self._settings:
            raise BadRow(-1)
        place = 1 - self._mark
        cells = [("cell", place, index, entry) for index, entry in enumerate(row)]
        return (*cells, ("mark", place))

    def _cell_write(self, thing):
        """Whether thing is a write of an entry into a cell."""
        if not tuple_sized(thing, 4, 4) or thing[0] != "cell" or not _place_right(thing[1]):
            return False
        if not number_within(thing[2], 0, len(self._settings) - 1):
            return False
        return _entry_right(thing[3]) and thing[3][0] == self._settings[thing[2]]

    def write(self, write):
        """Do one write."""
        if self._cell_write(write):
            _, place, index, entry = write
            self._cells[place][index] = entry
        elif tuple_sized(write, 2, 2) and write[0] == "mark" and _place_right(write[1]):
            self._mark = write[1]
        else:
            raise BadWrite(0)

    def told(self):
        """The cells of the marked place."""
        return tuple(self._cells[self._mark])

    def places(self):
        """The mark, and the cells of both places."""
        return (self._mark, tuple(self._cells[0]), tuple(self._cells[1]))
