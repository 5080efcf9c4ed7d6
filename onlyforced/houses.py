"""Houses, which keep rows [41], write deeds [42], hear letters [43] and are begun again [44]."""

from onlyforced.edits import made_edit, tells
from onlyforced.errors import BadHouse, BadLot, Narrow, NotKept, NotLawful, Unlike
from onlyforced.leads import closed_kept, must_be_lawful, must_be_met
from onlyforced.letters import house_number, must_be_letter, must_be_row
from onlyforced.pages import made_lot, made_page, settings_rise


def must_be_house(number):
    """Refuse what is no number of a house."""
    if not house_number(number):
        raise BadHouse(number)


class Keeper:
    """What a house keeps: for each setting of its lot a worth, and the stamp that it came with.

    Several of them can lean on what is left of one book, and all that they are handed is right.
    """

    def __init__(self, left, lot, page, number, sparing):
        self._left = left
        self._lot = lot
        self._number = number
        self._sparing = sparing
        self._kept = {setting: (page[setting], (0, 0)) for setting in lot}

    def must_do(self, wish):
        """Refuse a wish that the house cannot do the deed of."""
        made_edit(self._left.sizes, wish)
        for setting, _ in wish:
            if setting not in self._kept:
                raise NotKept(setting)
        must_be_met(self._left, wish)

    def take(self, entries):
        """Put those of the entries into the row whose settings it has."""
        for setting, worth, stamp in entries:
            if setting in self._kept:
                self._kept[setting] = (worth, stamp)

    def _to_write(self, wish):
        """The pairs of the wish's edit that the house writes."""
        edit = self._left.edit_for(wish)
        if not self._sparing:
            return edit
        # Settings that it does not keep are never among what it shows, so they stay.
        shown = self.shown()
        return [pair for pair in edit if tells(wish, pair[0]) or pair not in shown]

    def do_deed(self, wish):
        """Do the deed of a wish, and return its letter."""
        newest = max([count for worth, (count, house) in self._kept.values()])
        stamp = (newest + 1, self._number)
        entries = tuple([(setting, worth, stamp) for setting, worth in self._to_write(wish)])
        self.take(entries)
        return (tuple(range(len(self._left.sizes))), entries)

    def letter(self):
        """The letter of the house's row."""
        return (self._lot, self.row())

    def take_newer(self, letter, looked_at):
        """Take what is newer in a letter at settings that are looked at, and return them, rising."""
        span, entries = letter
        for setting in self._lot:
            if setting not in span:
                raise Narrow(setting)
        newer = []
        for setting, worth, stamp in entries:
            if setting in self._kept and setting in looked_at:
                kept_worth, kept_stamp = self._kept[setting]
                if stamp == kept_stamp and worth != kept_worth:
                    raise Unlike(setting)
                if stamp > kept_stamp:
                    newer.append((setting, worth, stamp))
        self.take(newer)
        return tuple([setting for setting, worth, stamp in newer])

    def shown(self):
        """The edit of the row's worths."""
        return tuple([(setting, worth) for setting, (worth, stamp) in self._kept.items()])

    def row(self):
        """The row."""
        return tuple([(setting, worth, stamp) for setting, (worth, stamp) in self._kept.items()])

    def lot(self):
        """The lot of the settings that the house keeps."""
        return self._lot


class House(Keeper):
    """A house of one book, which looks at all that it is handed."""

    def __init__(self, book, lot, page, number, *, sparing=False):
        left = closed_kept(book)
        made_lot(left.sizes, lot)
        made_page(left.sizes, page)
        must_be_lawful(left, page)
        must_be_house(number)
        Keeper.__init__(self, left, lot, page, number, bool(sparing))

    def wish(self, wish):
        """Do the deed of a wish, and return its letter."""
        self.must_do(wish)
        return self.do_deed(wish)

    def letter(self):
        """The letter of the house's row."""
        return super().letter()

    def hear(self, letter, *, only=None):
        """Take what is newer in a letter, and return its settings, rising."""
        must_be_letter(self._left.sizes, letter)
        if only is not None and not settings_rise(self._left.sizes, only):
            raise BadLot(-1)
        return self.take_newer(letter, self._lot if only is None else only)

    def shown(self):
        """The edit of the row's worths."""
        return super().shown()

    def row(self):
        """The row."""
        return super().row()

    def lot(self):
        """The lot of the settings that the house keeps."""
        return super().lot()


def reopened(book, lot, number, row, *, sparing=False):
    """A house that goes on with a row."""
    left = closed_kept(book)
    made_lot(left.sizes, lot)
    must_be_house(number)
    must_be_row(left.sizes, lot, row)
    page = left.least_page(tuple([(setting, worth) for setting, worth, stamp in row]))
    if page is None:
        raise NotLawful(0)
    house = House(book, lot, page, number, sparing=sparing)
    house.take(row)
    return house
