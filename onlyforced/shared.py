"""Classes of settings [49], who may share a stamp [50], and houses with shared stamps [51]."""

from onlyforced.closing import tight_of
from onlyforced.edits import made_edit, over, tells
from onlyforced.errors import BadLetter, Fixed, Unlike
from onlyforced.forms import plain_pair, tuple_sized
from onlyforced.houses import must_be_house
from onlyforced.leads import closed_kept, must_be_lawful, must_be_met
from onlyforced.letters import plain_stamp
from onlyforced.pages import made_page, made_setting, worth_of


def _classes_of(left):
    """The classes of what is left of a book."""
    least = {}
    # Sayings come by rising settings, so the first one that ties a setting names its least mate.
    for saying in tight_of(left)[1]:
        if saying[0] == "tied":
            least.setdefault(saying[2], saying[1])
    lots = {}
    for setting in range(len(left.sizes)):
        lots.setdefault(least.get(setting, setting), []).append(setting)
    return tuple([tuple(lot) for lot in lots.values()])


def classes(book):
    """The lots of settings that are one another's, and all other settings alone, rising."""
    return _classes_of(closed_kept(book))


def lost_share(book, i, j):
    """A page and two wishes, the elder hidden by the newer if i and j share a stamp, or None."""
    left = closed_kept(book)
    for setting in (i, j):
        made_setting(left.sizes, setting)
    for setting in (i, j):
        if len(left.worths(setting)) == 1:
            raise Fixed(setting)
    page = left.least_page(())
    for worth in left.worths(i):
        newer = ((i, worth),)
        if not tells(left.edit_for(newer), j):
            others = [other for other in left.worths(j) if other != page[j]]
            return (page, ((j, others[0]),), newer)
    return None


def may_share(book, i, j):
    """Whether i and j can be kept with one stamp."""
    return lost_share(book, i, j) is None


class SharedHouse:
    """A house that keeps a page, with one stamp for each class of settings."""

    def __init__(self, book, page, number):
        left = closed_kept(book)
        made_page(left.sizes, page)
        must_be_lawful(left, page)
        must_be_house(number)
        self._left = left
        self._number = number
        self._page = page
        self._classes = _classes_of(left)
        self._stamps = [(0, 0) for _ in self._classes]

    def _worths_of(self, lot):
        """The worths that are shown at the settings of a class."""
        return tuple([self._page[setting] for setting in lot])

    def wish(self, wish):
        """Do the deed of a wish, and return its edit."""
        made_edit(self._left.sizes, wish)
        must_be_met(self._left, wish)
        edit = self._left.edit_for(wish)
        newest = max([count for count, house in self._stamps])
        for index, lot in enumerate(self._classes):
            if any([tells(edit, setting) for setting in lot]):
                self._stamps[index] = (newest + 1, self._number)
        self._page = over(self._page, edit)
        return edit

    def letter(self):
        """For each class its worths and its stamp."""
        return tuple([(self._worths_of(lot), stamp) for lot, stamp in zip(self._classes, self._stamps)])

    def _part_right(self, lot, thing):
        """Whether thing is what a shared letter has of a class."""
        if not plain_pair(thing) or not tuple_sized(thing[0], len(lot), len(lot)) or not plain_stamp(thing[1]):
            return False
        return all([worth_of(self._left.sizes, setting, worth) for setting, worth in zip(lot, thing[0])])

    def _must_be_letter(self, thing):
        """Refuse what is no shared letter."""
        if not tuple_sized(thing, len(self._classes), len(self._classes)):
            raise BadLetter(-1)
        for index, lot in enumerate(self._classes):
            if not self._part_right(lot, thing[index]):
                raise BadLetter(index)

    def hear(self, letter):
        """Take the classes that are newer in a letter, and return their settings, rising."""
        self._must_be_letter(letter)
        for index, (worths, stamp) in enumerate(letter):
            if stamp == self._stamps[index] and worths != self._worths_of(self._classes[index]):
                raise Unlike(index)
        newer = [index for index, (worths, stamp) in enumerate(letter) if stamp > self._stamps[index]]
        taken = []
        for index in newer:
            worths, self._stamps[index] = letter[index]
            taken += list(zip(self._classes[index], worths))
        self._page = over(self._page, taken)
        return tuple(sorted([setting for setting, worth in taken]))

    def shown(self):
        """The page."""
        return self._page
