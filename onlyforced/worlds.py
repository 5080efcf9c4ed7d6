"""Worlds of houses, with all letters that were ever made [46], and scripts of them [47]."""

from onlyforced.errors import (
    BadHouse, BadLot, BadLots, BadManner, BadScript, Full, NoLetter, NotTorn, Torn,
)
from onlyforced.forms import number_within, tuple_sized
from onlyforced.houses import Keeper
from onlyforced.leads import closed_kept, must_be_lawful
from onlyforced.pages import lot_of, made_page, settings_rise

MANNERS = ("whole", "sparing", "torn")
MOST_LOTS = 8
MOST_LETTERS = 400
MOST_ROWS = 200

# How many parts the rows of a script have, by their first words.
PARTS = {"wish": 3, "send": 2, "bring": 3, "part": 4}


def must_be_manner(thing):
    """Refuse what is no manner of worlds."""
    if thing not in MANNERS:
        raise BadManner(thing)


def _must_be_lots(sizes, thing):
    """Refuse what is no lots of houses."""
    if not tuple_sized(thing, 1, MOST_LOTS):
        raise BadLots(-1)
    for index, lot in enumerate(thing):
        if not lot_of(sizes, lot):
            raise BadLots(index)


class World:
    """Houses that begin with one page, and the letters that they made, each to be brought at will."""

    def __init__(self, book, page, lots, manner):
        left = closed_kept(book)
        made_page(left.sizes, page)
        must_be_lawful(left, page)
        _must_be_lots(left.sizes, lots)
        must_be_manner(manner)
        self._left = left
        self._manner = manner
        sparing = manner == "sparing"
        self._keepers = [Keeper(left, lot, page, h, sparing) for h, lot in enumerate(lots)]
        # For each letter, and for each house, its deeds: bit by bit, the numbers of their letters.
        self._letters = []
        self._brought = []
        self._heard = [0 for _ in lots]

    def _keeper(self, h):
        """The house h."""
        if not number_within(h, 0, len(self._keepers) - 1):
            raise BadHouse(h)
        return self._keepers[h]

    def _must_have_room(self):
        """Refuse one letter more than a world can have."""
        if len(self._letters) == MOST_LETTERS:
            raise Full(MOST_LETTERS)

    def _must_be_letter(self, number):
        """Refuse what is no number of a letter."""
        if not number_within(number, 0, len(self._letters) - 1):
            raise NoLetter(number)

    def wish(self, h, wish):
        """Let a house do a deed, and return the number of its letter."""
        keeper = self._keeper(h)
        keeper.must_do(wish)
        self._must_have_room()
        number = len(self._letters)
        self._letters.append(keeper.do_deed(wish))
        self._brought.append(1 << number)
        self._heard[h] |= 1 << number
        return number

    def send(self, h):
        """Let a house make a letter of its row, and return its number."""
        keeper = self._keeper(h)
        self._must_have_room()
        self._letters.append(keeper.letter())
        self._brought.append(self._heard[h])
        return len(self._letters) - 1

    def _hear(self, number, h, looked_at):
        """Let a house hear of a letter what stands at settings that are looked at."""
        taken = self._keepers[h].take_newer(self._letters[number], looked_at)
        self._heard[h] |= self._brought[number]
        return taken

    def bring(self, letter, h):
        """Let a house hear a letter, and return the settings that it took."""
        self._must_be_letter(letter)
        return self._hear(letter, h, self._keeper(h).lot())

    def part(self, letter, h, lot):
        """Let a house hear of a letter what stands at the lot, and return the settings that it took."""
        if self._manner != "torn":
            raise NotTorn(0)
        self._must_be_letter(letter)
        self._keeper(h)
        if not settings_rise(self._left.sizes, lot):
            raise BadLot(-1)
        return self._hear(letter, h, lot)

    def shown(self, h):
        """The edit of the worths that a house shows."""
        return self._keeper(h).shown()

    def row(self, h):
        """The row of a house."""
        return self._keeper(h).row()

    def holds(self, h):
        """Whether some lawful page has all worths that a house shows."""
        return self._left.can_meet(self.shown(h))

    def letter(self, number):
        """The letter with this number."""
        self._must_be_letter(number)
        return self._letters[number]

    def letters(self):
        """How many letters there are."""
        return len(self._letters)

    def heard(self, h):
        """The numbers of the letters of all deeds that a house did or heard of, rising."""
        self._keeper(h)
        if self._manner == "torn":
            raise Torn(0)
        return tuple([number for number in range(len(self._letters)) if self._heard[h] >> number & 1])


def _script_fault(thing):
    """What BadScript tells of thing, None if its rows have the form of a script's."""
    if not tuple_sized(thing, 0, MOST_ROWS):
        return -1
    for index, row in enumerate(thing):
        if not isinstance(row, tuple) or not row or not isinstance(row[0], str):
            return index
        if PARTS.get(row[0], 0) != len(row):
            return index
    return None


def _do_row(world, row):
    """Do one row of a script in a world."""
    if row[0] == "wish":
        world.wish(row[1], row[2])
    elif row[0] == "send":
        world.send(row[1])
    elif row[0] == "bring":
        world.bring(row[1], row[2])
    else:
        world.part(row[1], row[2], row[3])


def run_script(book, page, lots, manner, script):
    """What each house of a new world shows behind all rows of the script."""
    world = World(book, page, lots, manner)
    fault = _script_fault(script)
    if fault is not None:
        raise BadScript(fault)
    for row in script:
        _do_row(world, row)
    return tuple([world.shown(h) for h in range(len(lots))])
