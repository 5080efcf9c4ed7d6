"""[41] to [44]: houses beside plain rows that are kept here: deeds, letters, houses begun again."""

import unittest

from onlyforced.errors import (
    BadEdit, BadHouse, BadLetter, BadLot, BadPage, BadRow, CannotMeet, Narrow, NoPage, NotKept, NotLawful, Unlike,
)
from onlyforced.forcing import edit_for
from onlyforced.houses import House, reopened
from tests.helpers import (
    C, H, M, NO_PAGE, WRONG_BOOKS, all_edits, exactly, nested, refused, seeded, small_books, wrong_edits,
    wrong_pages,
)
from tests.test_forcing import bar_told, edit_told
from tests.test_letters import WRONG_LOTS, WRONG_STAMPS, wrong_entries
from tests.test_visits import visited

# The book of DOC.md [43].
DOOR = ((3, 2), (("either", 0, 0, 1, 1),))

WRONG_NUMBERS = (-1, 100, 10 ** 50, -(10 ** 50), True, False, None, "0", (), (0,), nested(50, 0))

ZERO = (0, 0)


class Plain:
    """A house as [41] to [43] tell it, of a book of which all pages are known."""

    def __init__(self, sizes, pages, lot, page, number, sparing):
        self.sizes, self.pages, self.lot = sizes, pages, lot
        self.number, self.sparing = number, sparing
        self.kept = {at: (page[at], ZERO) for at in lot}

    def row(self):
        return tuple((at, *self.kept[at]) for at in self.lot)

    def shown(self):
        return tuple((at, self.kept[at][0]) for at in self.lot)

    def wish(self, wish):
        stamp = (1 + max(count for _, (count, _) in self.kept.values()), self.number)
        entries = []
        for at, worth in edit_told(self.pages, wish):
            named, kept = at in dict(wish), at in self.lot
            if not self.sparing or named or not kept or self.kept[at][0] != worth:
                entries.append((at, worth, stamp))
        for at, worth, _ in entries:
            if at in self.lot:
                self.kept[at] = (worth, stamp)
        return (tuple(range(len(self.sizes))), tuple(entries))

    def letter(self):
        return (self.lot, self.row())

    def hear(self, letter, only=None):
        taken = []
        for at, worth, stamp in letter[1]:
            if at in self.lot and (only is None or at in only) and stamp > self.kept[at][1]:
                taken.append(at)
                self.kept[at] = (worth, stamp)
        return tuple(taken)


class Run:
    """Houses beside plain ones, and the letters that they wrote."""

    def __init__(self, case, source, book, pages, lots, sparing):
        self.case, self.source, self.book, self.pages, self.lots = case, source, book, pages, lots
        self.sparing = sparing
        self.first = source.choice(pages)
        self.houses = [House(book, lot, self.first, h, sparing=sparing) for h, lot in enumerate(lots)]
        self.plain = [Plain(book[0], pages, lot, self.first, h, sparing) for h, lot in enumerate(lots)]
        self.letters = []
        self.heard = [{} for _ in lots]

    def look(self, h):
        exactly(self.case, self.houses[h].shown(), self.plain[h].shown())
        exactly(self.case, self.houses[h].row(), self.plain[h].row())
        exactly(self.case, self.houses[h].lot(), self.lots[h])

    def wish(self):
        h = self.source.randrange(len(self.lots))
        page = self.source.choice(self.pages)
        wish = tuple((at, page[at]) for at in self.lots[h] if self.source.random() < 0.5)
        letter = self.plain[h].wish(wish)
        exactly(self.case, self.houses[h].wish(wish), letter)
        if letter[1]:
            self.heard[h][letter[1][0][2]] = edit_told(self.pages, wish)
        self.letters.append((letter, {key: self.heard[h][key] for _, _, key in letter[1]}))

    def send(self):
        h = self.source.randrange(len(self.lots))
        letter = self.plain[h].letter()
        exactly(self.case, self.houses[h].letter(), letter)
        self.letters.append((letter, dict(self.heard[h])))

    def bring(self, parts):
        h = self.source.randrange(len(self.lots))
        letter, deeds = self.source.choice(self.letters)
        missing = [at for at in self.lots[h] if at not in letter[0]]
        only = None
        if parts and self.source.random() < 0.5:
            only = tuple(at for at in range(len(self.book[0])) if self.source.random() < 0.5)
        if missing:
            refused(self.case, Narrow, missing[0], self.houses[h].hear, letter, only=only)
        else:
            exactly(self.case, self.houses[h].hear(letter, only=only), self.plain[h].hear(letter, only))
            self.heard[h].update(deeds)

    def reopen(self):
        """Begin a house again with its row, unless no lawful page has what it shows."""
        h = self.source.randrange(len(self.lots))
        given = (self.book, self.lots[h], h, self.houses[h].row())
        if any(all(page[at] == worth for at, worth in self.plain[h].shown()) for page in self.pages):
            self.houses[h] = reopened(*given, sparing=self.sparing)
        else:
            refused(self.case, NotLawful, 0, reopened, *given, sparing=self.sparing)

    def go(self, steps, parts):
        for _ in range(steps):
            way = self.source.random()
            if way < 0.3 or not self.letters:
                self.wish()
            elif way < 0.45:
                self.send()
            elif way < 0.55:
                self.reopen()
            else:
                self.bring(parts)
            for h in range(len(self.lots)):
                self.look(h)
                if not self.sparing and not parts:
                    self.holds(h)

    def holds(self, h):
        """[46]: what is shown is the first page with the edits of all deeds heard, by rising stamps."""
        page = self.first
        for stamp in sorted(self.heard[h]):
            page = visited(page, self.heard[h][stamp])
        self.case.assertIn(page, self.pages)
        exactly(self.case, self.houses[h].shown(), tuple((at, page[at]) for at in self.lots[h]))


def some_lot(source, many):
    return tuple(sorted(source.sample(range(many), source.randint(1, many))))


class RunsTest(unittest.TestCase):
    def runs(self, number, sparing, parts, all_settings):
        source = seeded(number)
        for book, pages in small_books(source, 150):
            if pages:
                lots = [some_lot(source, len(book[0])) for _ in range(source.randint(1, 4))]
                if all_settings:
                    lots = [tuple(range(len(book[0]))) for _ in lots]
                Run(self, source, book, pages, lots, sparing).go(40, parts)

    def test_houses_that_keep_all(self):
        self.runs(411, False, False, True)

    def test_houses_that_keep_some(self):
        self.runs(412, False, False, False)

    def test_letters_of_which_a_part_is_heard(self):
        self.runs(413, False, True, True)
        self.runs(414, False, True, False)

    def test_sparing_houses(self):
        self.runs(415, True, False, True)
        self.runs(416, True, False, False)
        self.runs(417, True, True, False)


class DeedsTest(unittest.TestCase):
    def test_the_example(self):
        zero, one = (House(DOOR, (0, 1), (0, 1), number) for number in (0, 1))
        first, second = zero.wish(((0, 1),)), one.wish(((1, 0),))
        exactly(self, first, ((0, 1), ((0, 1, (1, 0)), (1, 1, (1, 0)))))
        exactly(self, second, ((0, 1), ((0, 0, (1, 1)), (1, 0, (1, 1)))))
        exactly(self, one.hear(first), ())
        exactly(self, zero.hear(second), (0, 1))
        for house in (zero, one):
            exactly(self, house.shown(), ((0, 0), (1, 0)))

    def test_the_example_of_sparing_houses(self):
        zero, one = (House(DOOR, (0, 1), (0, 1), number, sparing=True) for number in (0, 1))
        first, second = zero.wish(((0, 1),)), one.wish(((1, 0),))
        exactly(self, first, ((0, 1), ((0, 1, (1, 0)),)))
        exactly(self, second, ((0, 1), ((1, 0, (1, 1)),)))
        exactly(self, one.hear(first), (0,))
        exactly(self, one.shown(), ((0, 1), (1, 0)))

    def test_sparing_is_taken_by_its_truth(self):
        for sparing in (True, 1, "no", (0,), 7):
            exactly(self, House(DOOR, (0, 1), (0, 1), 0, sparing=sparing).wish(((0, 1),))[1], ((0, 1, (1, 0)),))
            house = reopened(DOOR, (0, 1), 0, ((0, 0, ZERO), (1, 1, ZERO)), sparing=sparing)
            exactly(self, house.wish(((0, 1),))[1], ((0, 1, (1, 0)),))
        for sparing in (False, 0, "", (), None):
            exactly(self, len(House(DOOR, (0, 1), (0, 1), 0, sparing=sparing).wish(((0, 1),))[1]), 2)
            house = reopened(DOOR, (0, 1), 0, ((0, 0, ZERO), (1, 1, ZERO)), sparing=sparing)
            exactly(self, len(house.wish(((0, 1),))[1]), 2)

    def test_a_new_house(self):
        house = House(M, (0, 2), (0, 0, 1), 99)
        exactly(self, house.lot(), (0, 2))
        exactly(self, house.row(), ((0, 0, ZERO), (2, 1, ZERO)))
        exactly(self, house.shown(), ((0, 0), (2, 1)))
        exactly(self, house.letter(), ((0, 2), ((0, 0, ZERO), (2, 1, ZERO))))

    def test_a_house_that_keeps_some_writes_for_all(self):
        house = House(M, (0,), (0, 0, 1), 7)
        exactly(self, house.wish(((0, 1),)), ((0, 1, 2), ((0, 1, (1, 7)), (1, 0, (1, 7)), (2, 0, (1, 7)))))
        exactly(self, house.row(), ((0, 1, (1, 7)),))
        # A sparing house tells of settings that it does not keep, whatever they are.
        house = House(M, (0, 1), (0, 0, 0), 7, sparing=True)
        exactly(self, house.wish(((0, 1),)), ((0, 1, 2), ((0, 1, (1, 7)), (2, 0, (1, 7)))))
        exactly(self, house.row(), ((0, 1, (1, 7)), (1, 0, ZERO)))
        # What the wish names is told even if it is so already.
        exactly(self, house.wish(((0, 1), (1, 0))), ((0, 1, 2), ((0, 1, (2, 7)), (1, 0, (2, 7)), (2, 0, (2, 7)))))

    def test_the_empty_wish_changes_nothing(self):
        for book, lot, page in ((M, (0, 1, 2), (0, 0, 1)), (C, (0,), (0, 1)), (C, (1,), (0, 1))):
            house = House(book, lot, page, 3)
            house.wish(((lot[0], page[lot[0]]),))
            row = house.row()
            exactly(self, house.wish(()), (tuple(range(len(book[0]))), ()))
            exactly(self, house.row(), row)

    def test_fixed_settings_are_told_just_if_the_wish_does(self):
        exactly(self, House(C, (0, 1), (0, 0), 0).wish(((1, 1),))[1], ((1, 1, (1, 0)),))
        exactly(self, House(C, (0, 1), (0, 0), 0).wish(((0, 0), (1, 1)))[1], ((0, 0, (1, 0)), (1, 1, (1, 0))))

    def test_settings_that_are_right_already_get_the_stamp(self):
        house = House(DOOR, (0, 1), (0, 1), 5)
        house.wish(((0, 1),))
        exactly(self, house.row(), ((0, 1, (1, 5)), (1, 1, (1, 5))))
        house.wish(((1, 1),))
        exactly(self, house.row(), ((0, 1, (1, 5)), (1, 1, (2, 5))))
        house.wish(((0, 1),))
        exactly(self, house.row(), ((0, 1, (3, 5)), (1, 1, (3, 5))))

    def test_the_count_goes_on_from_the_greatest_in_the_row(self):
        house = House(DOOR, (0, 1), (0, 1), 2)
        house.hear(((0, 1), ((1, 1, (41, 9)),)))
        exactly(self, house.wish(((0, 2),)), ((0, 1), ((0, 2, (42, 2)), (1, 1, (42, 2)))))
        # What is told of settings that it does not keep is not in its row, and does not count.
        house = House(DOOR, (0,), (0, 1), 2)
        exactly(self, house.hear(((0, 1), ((1, 1, (41, 9)),))), ())
        exactly(self, house.wish(((0, 2),))[1][0], (0, 2, (1, 2)))

    def test_all_wishes_of_books(self):
        for book, pages in small_books(seeded(421), 80):
            lot = tuple(range(len(book[0])))
            for wish in all_edits(book[0]) if pages else ():
                house = House(book, lot, pages[-1], 1)
                if bar_told(pages, wish) is None:
                    entries = tuple((at, worth, (1, 1)) for at, worth in edit_for(book, wish))
                    exactly(self, house.wish(wish), (lot, entries))
                    page = visited(pages[-1], edit_told(pages, wish))
                    exactly(self, house.shown(), tuple(enumerate(page)))
                else:
                    refused(self, CannotMeet, bar_told(pages, wish), house.wish, wish)
                    exactly(self, house.row(), tuple((at, worth, ZERO) for at, worth in enumerate(pages[-1])))

    def test_wrong_wishes_in_their_order(self):
        house = House(M, (0, 2), (0, 0, 1), 4)
        row = house.row()
        for wish, what in wrong_edits(M[0]):
            refused(self, BadEdit, what, house.wish, wish)
        refused(self, BadEdit, 1, house.wish, ((1, 0), (2, 2)))
        for wish in (((1, 0),), ((1, 1),), ((0, 1), (1, 0)), ((0, 1), (1, 1)), ((0, 1), (1, 1), (2, 1))):
            refused(self, NotKept, 1, house.wish, wish)
        refused(self, NotKept, 0, House(M, (1,), (0, 0, 0), 4).wish, ((0, 1), (1, 1), (2, 1)))
        refused(self, NotKept, 2, House(M, (0, 1), (0, 0, 0), 4).wish, ((0, 1), (1, 1), (2, 1)))
        refused(self, CannotMeet, (0, 2), house.wish, ((0, 1), (2, 1)))
        refused(self, CannotMeet, (0, 0), House(C, (0, 1), (0, 0), 4).wish, ((0, 1),))
        exactly(self, house.row(), row)


class HearTest(unittest.TestCase):
    def house(self, lot=(0, 1, 2)):
        """A house of the lot whose row has the stamps (3, 5)."""
        row = tuple((at, 0, (3, 5)) for at in lot)
        return reopened(((3, 3, 3), ()), lot, 5, row)

    def test_which_entries_are_taken(self):
        for stamp, newer in (
            ((0, 0), False), ((2, 99), False), ((3, 4), False), ((3, 5), False), ((3, 6), True), ((4, 0), True),
            ((10 ** 300, 0), True),
        ):
            house = self.house()
            worth = 0 if stamp == (3, 5) else 1
            exactly(self, house.hear(((0, 1, 2), ((1, worth, stamp),))), (1,) if newer else ())
            exactly(self, house.row()[1], (1, worth, stamp) if newer else (1, 0, (3, 5)))
            exactly(self, house.hear(((0, 1, 2), ((1, worth, stamp),))), ())

    def test_a_newer_entry_with_the_same_worth_is_taken(self):
        house = self.house()
        exactly(self, house.hear(((0, 1, 2), ((0, 0, (9, 9)), (2, 0, (9, 9))))), (0, 2))
        exactly(self, house.row(), ((0, 0, (9, 9)), (1, 0, (3, 5)), (2, 0, (9, 9))))

    def test_only(self):
        letter = ((0, 1, 2), tuple((at, 1, (4, 1)) for at in range(3)))
        for only, taken in (
            (None, (0, 1, 2)), ((), ()), ((1,), (1,)), ((0, 2), (0, 2)), ((0, 1, 2), (0, 1, 2)),
        ):
            house = self.house()
            exactly(self, house.hear(letter, only=only), taken)
            exactly(self, house.shown(), tuple((at, 1 if at in taken else 0) for at in range(3)))
        # Settings that the house does not keep, or of which the letter has no entry, may stand in it.
        house = self.house((0, 2))
        exactly(self, house.hear(letter, only=(0, 1)), (0,))
        exactly(self, house.hear(((0, 1, 2), letter[1][:1]), only=(0, 1, 2)), ())

    def test_a_letter_has_to_span_the_lot_whatever_is_heard_of_it(self):
        for span, setting in (((0,), 1), ((1, 2), 0), ((2,), 0), ((0, 1), 2), ((0, 2), 1)):
            house = self.house()
            for only in (None, (), span, (0, 1, 2)):
                refused(self, Narrow, setting, house.hear, (span, ()), only=only)
                refused(self, Narrow, setting, house.hear, (span, ((span[0], 1, (9, 9)),)), only=only)
            exactly(self, house.shown(), ((0, 0), (1, 0), (2, 0)))
        exactly(self, self.house((1,)).hear(((0, 1, 2), ())), ())
        exactly(self, self.house((1,)).hear(((1,), ((1, 2, (9, 9)),))), (1,))

    def test_an_equal_stamp_with_another_worth(self):
        house = self.house()
        row = house.row()
        letter = ((0, 1, 2), ((0, 1, (9, 9)), (1, 1, (3, 5)), (2, 2, (3, 5))))
        refused(self, Unlike, 1, house.hear, letter)
        refused(self, Unlike, 1, house.hear, letter, only=(0, 1))
        refused(self, Unlike, 2, house.hear, letter, only=(0, 2))
        exactly(self, house.row(), row)
        exactly(self, house.hear(letter, only=(0,)), (0,))
        exactly(self, self.house((0,)).hear(letter), (0,))
        exactly(self, house.hear(((0, 1, 2), ((1, 0, (3, 5)),))), ())

    def test_wrong_letters(self):
        house = self.house()
        row = house.row()
        for letter in (None, 0, (), ((0,),), ((), ()), ((0, 3), ()), ((1, 0), ()), ((0,), None), (None, ()), ((True,), ())):
            for only in (None, (), (9,), 0):
                refused(self, BadLetter, -1, house.hear, letter, only=only)
        for at in range(3):
            for wrong in wrong_entries((3, 3, 3), at):
                for only in (None, (9,)):
                    refused(self, BadLetter, 0, house.hear, ((at,), (wrong,)), only=only)
        refused(self, BadLetter, 1, house.hear, ((0, 1, 2), ((1, 0, (9, 9)), (0, 0, (9, 9)))))
        refused(self, BadLetter, 1, house.hear, ((0, 1), ((1, 0, (9, 9)), (2, 0, (9, 9)))))
        exactly(self, house.row(), row)

    def test_wrong_parts_go_behind_the_letter_and_ahead_of_the_span(self):
        house = self.house()
        row = house.row()
        for only in (0, True, False, "", "ab", (3,), (-1,), (True,), (None,), (0, 0), (1, 0), ((0,),), nested(50, 0)):
            refused(self, BadLot, -1, house.hear, ((0, 1, 2), ((0, 1, (9, 9)),)), only=only)
            refused(self, BadLot, -1, house.hear, ((0,), ()), only=only)
            refused(self, BadLot, -1, house.hear, ((0, 1, 2), ((0, 1, (3, 5)),)), only=only)
        refused(self, Narrow, 1, house.hear, ((0, 2), ((0, 1, (3, 5)),)))
        exactly(self, house.row(), row)


class ReopenedTest(unittest.TestCase):
    def test_any_stamps(self):
        row = ((0, 0, (7, 3)), (2, 1, (2, 99)))
        house = reopened(M, (0, 2), 8, row)
        exactly(self, house.row(), row)
        exactly(self, house.lot(), (0, 2))
        exactly(self, house.shown(), ((0, 0), (2, 1)))
        exactly(self, house.letter(), ((0, 2), row))
        exactly(self, house.wish(((0, 1),))[1][0], (0, 1, (8, 8)))

    def test_the_worths_have_to_be_on_a_lawful_page(self):
        told = [0, 0]
        source = seeded(441)
        for book, pages in small_books(source, 200):
            for _ in range(6 if pages else 0):
                lot = some_lot(source, len(book[0]))
                row = tuple((at, source.randrange(book[0][at]), (source.randint(0, 3), 1)) for at in lot)
                kept = any(all(page[at] == worth for at, worth, _ in row) for page in pages)
                if kept:
                    house = reopened(book, lot, 1, row)
                    exactly(self, house.row(), row)
                    exactly(self, house.shown(), tuple((at, worth) for at, worth, _ in row))
                else:
                    refused(self, NotLawful, 0, reopened, book, lot, 1, row)
                told[kept] += 1
        self.assertGreater(min(told), 100)

    def test_no_two_deeds_have_one_stamp(self):
        source = seeded(442)
        house = House(H, (0, 1, 2), (0, 1, 1), 6)
        stamps, row = [], house.row()
        for _ in range(60):
            if source.random() < 0.3:
                house = reopened(H, (0, 1, 2), 6, row)
            page = source.choice(((0, 0, 0), (0, 0, 1), (0, 1, 1), (1, 1, 1)))
            stamps.append(house.wish(tuple(enumerate(page))[:source.randint(1, 3)])[1][0][2])
            row = house.row()
        self.assertEqual(len(set(stamps)), 60)

    def test_nothing_handed_in_and_no_other_house_is_changed(self):
        row = ((0, 0, ZERO), (1, 1, ZERO))
        one, two = reopened(DOOR, (0, 1), 1, row), reopened(DOOR, (0, 1), 2, row)
        one.wish(((0, 2),))
        exactly(self, row, ((0, 0, ZERO), (1, 1, ZERO)))
        exactly(self, two.row(), row)


class WrongHousesTest(unittest.TestCase):
    ROW = ((0, 0, ZERO), (1, 0, ZERO))

    def test_wrong_books_and_books_without_pages_go_first(self):
        for lot, page, number in (((0, 1), (0, 0), 0), (None, None, None), ((), (9, 9), 100)):
            for book, error, what in WRONG_BOOKS:
                refused(self, error, what, House, book, lot, page, number)
                refused(self, error, what, reopened, book, lot, number, self.ROW)
                refused(self, error, what, reopened, book, lot, number, None)
            for book in NO_PAGE:
                refused(self, NoPage, 0, House, book, lot, page, number)
                refused(self, NoPage, 0, reopened, book, lot, number, self.ROW)

    def test_then_the_lot(self):
        book = ((3, 2, 6), (("either", 0, 0, 1, 1),))
        for lot in WRONG_LOTS:
            refused(self, BadLot, -1, House, book, lot, (0, 0, 0), 0)
            refused(self, BadLot, -1, House, book, lot, None, None)
            refused(self, BadLot, -1, House, book, lot, (1, 0, 0), 100)
            refused(self, BadLot, -1, reopened, book, lot, None, None)
            refused(self, BadLot, -1, reopened, book, lot, 0, ((0, 0, ZERO),))

    def test_then_the_page_whether_it_is_lawful_and_the_number(self):
        for page, what in wrong_pages(M[0]):
            refused(self, BadPage, what, House, M, (0,), page, 0)
            refused(self, BadPage, what, House, M, (0,), page, None)
        for number in WRONG_NUMBERS + (0,):
            refused(self, NotLawful, 0, House, M, (2,), (1, 1, 0), number)
        for number in WRONG_NUMBERS:
            refused(self, BadHouse, number, House, M, (0,), (1, 0, 0), number)
            refused(self, BadHouse, number, House, M, (0,), (1, 0, 0), number, sparing=True)
        for number in (0, 99):
            exactly(self, House(M, (0,), (1, 0, 0), number).wish(((0, 0),))[1], ((0, 0, (1, number)),))

    def test_of_reopened_the_number_then_the_row_then_whether_it_is_lawful(self):
        for number in WRONG_NUMBERS:
            for row in (self.ROW, None, ((0, 1, ZERO), (1, 1, ZERO))):
                refused(self, BadHouse, number, reopened, M, (0, 1), number, row)
        for row in (None, (), self.ROW[:1], self.ROW + self.ROW, "ab", 0):
            refused(self, BadRow, -1, reopened, M, (0, 1), 0, row)
        for stamp in WRONG_STAMPS:
            refused(self, BadRow, 1, reopened, M, (0, 1), 0, ((0, 1, ZERO), (1, 1, stamp)))
        for at in (0, 1):
            for wrong in wrong_entries(M[0], at):
                refused(self, BadRow, at, reopened, M, (0, 1), 0, self.ROW[:at] + (wrong,) + self.ROW[at + 1:])
        refused(self, BadRow, 0, reopened, M, (0, 1), 0, self.ROW[::-1])
        refused(self, NotLawful, 0, reopened, M, (0, 1), 0, ((0, 1, ZERO), (1, 1, ZERO)))

    def test_sparing_and_only_are_given_by_name(self):
        with self.assertRaises(TypeError):
            House(M, (0,), (0, 0, 0), 0, True)
        with self.assertRaises(TypeError):
            House(M, (0,), (0, 0, 0), 0).hear(((0,), ()), (0,))


if __name__ == "__main__":
    unittest.main()
