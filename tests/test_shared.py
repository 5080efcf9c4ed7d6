"""[49] to [51]: classes of settings, who may share a stamp, and houses with shared stamps."""

import unittest

from onlyforced.errors import (
    BadEdit, BadHouse, BadLetter, BadPage, BadSetting, CannotMeet, Fixed, NoPage, NotLawful, Unlike,
)
from onlyforced.houses import House
from onlyforced.shared import SharedHouse, classes, lost_share, may_share
from tests.helpers import (
    C, M, NO_PAGE, Quick, WRONG_BOOKS, all_edits, exactly, nested, planted_book, refused, seeded, small_books,
    tight_told, wrong_edits, wrong_pages, wrong_settings,
)
from tests.test_forcing import bar_told, edit_told
from tests.test_houses import DOOR, WRONG_NUMBERS
from tests.test_letters import WRONG_STAMPS

# The book C of DOC.md [49]; its B is DOOR.
TIED = ((2, 3, 2), (("tied", 0, 1, ((0, 1), (1, 2))),))

ZERO = (0, 0)


def fixed_told(pages):
    """The settings at which all pages have one worth."""
    return [at for at in range(len(pages[0])) if len({page[at] for page in pages}) == 1]


def classes_told(sizes, pages):
    """[49], word by word."""
    ties = [saying[1:3] for saying in tight_told(sizes, pages)[1] if saying[0] == "tied"]
    lots = []
    for at in range(len(sizes)):
        mates = [lot for lot in lots if (lot[0], at) in ties]
        if mates:
            mates[0].append(at)
        else:
            lots.append([at])
    return tuple(tuple(lot) for lot in lots)


class ClassesTest(unittest.TestCase):
    def test_the_examples(self):
        exactly(self, classes(TIED), ((0, 1), (2,)))
        exactly(self, classes(DOOR), ((0,), (1,)))
        self.assertIs(may_share(TIED, 1, 0), True)
        self.assertIs(may_share(DOOR, 0, 1), False)

    def test_fixed_settings_are_alone(self):
        book = ((2, 2, 2, 2), (("tied", 0, 2, ((0, 0),)), ("tied", 1, 3, ((0, 1), (1, 0)))))
        exactly(self, classes(book), ((0,), (1, 3), (2,)))
        exactly(self, classes(C), ((0,), (1,)))

    def judge_lost(self, book, pages, i, j, shared):
        found = lost_share(book, i, j)
        exactly(self, lost_share(book, i, j), found)
        self.assertIs(may_share(book, i, j), shared)
        if shared:
            exactly(self, found, None)
            return
        self.assertEqual((type(found), len(found)), (tuple, 3))
        page, elder, newer = found
        self.assertIn(page, pages)
        old, new = dict(edit_told(pages, elder)), dict(edit_told(pages, newer))
        self.assertEqual(len({i, j} & set(new)), 1)
        other = j if i in new else i
        self.assertIn(other, old)
        self.assertNotEqual(old[other], page[other])

    def test_small_books(self):
        told = [0, 0]
        for book, pages in small_books(seeded(491), 500):
            if not pages:
                continue
            lots = classes_told(book[0], pages)
            exactly(self, classes(book), lots)
            still = fixed_told(pages)
            for i in range(len(book[0])):
                for j in range(len(book[0])):
                    wrong = [at for at in (i, j) if at in still]
                    if wrong:
                        refused(self, Fixed, wrong[0], may_share, book, i, j)
                        refused(self, Fixed, wrong[0], lost_share, book, i, j)
                        continue
                    shared = any(i in lot and j in lot for lot in lots)
                    told[shared] += i != j
                    self.judge_lost(book, pages, i, j, shared)
        self.assertGreater(min(told), 30)

    def test_each_edit_has_all_of_a_class_or_none(self):
        for book, pages in small_books(seeded(492), 200):
            for lot in classes(book) if pages else ():
                for wish in all_edits(book[0]):
                    if bar_told(pages, wish) is None:
                        told = dict(edit_told(pages, wish))
                        self.assertIn(len(set(lot) & set(told)), (0, len(lot)))

    def test_great_books(self):
        source = seeded(493)
        ties = tuple(("tied", at, at + 2, tuple((worth, 5 - worth) for worth in range(6))) for at in range(22))
        with Quick(self):
            exactly(self, classes(((6,) * 24, ties)), (tuple(range(0, 24, 2)), tuple(range(1, 24, 2))))
            self.assertIs(may_share(((6,) * 24, ties), 0, 22), True)
        for sizes in ((2,) * 24, (6,) * 24):
            for many in (0, 30, 400):
                book, _ = planted_book(source, sizes, many)
                with Quick(self):
                    lots = classes(book)
                self.assertEqual(sorted(at for lot in lots for at in lot), list(range(24)))

    def test_wrong_things_in_their_order(self):
        for call in (may_share, lost_share):
            for i, j in ((0, 1), (None, None), (9, 9)):
                for book, error, what in WRONG_BOOKS:
                    refused(self, error, what, call, book, i, j)
                for book in NO_PAGE:
                    refused(self, NoPage, 0, call, book, i, j)
            for wrong in wrong_settings(C[0]):
                refused(self, BadSetting, wrong, call, C, wrong, 0)
                refused(self, BadSetting, wrong, call, C, wrong, None)
                refused(self, BadSetting, wrong, call, C, 0, wrong)
                refused(self, BadSetting, wrong, call, C, 1, wrong)
            refused(self, Fixed, 0, call, C, 0, 0)
            refused(self, Fixed, 0, call, C, 1, 0)
            refused(self, Fixed, 0, call, C, 0, 1)
            refused(self, Fixed, 2, call, ((2, 1, 1), ()), 2, 1)
        for book, error, what in WRONG_BOOKS:
            refused(self, error, what, classes, book)
        for book in NO_PAGE:
            refused(self, NoPage, 0, classes, book)


class SharedHouseTest(unittest.TestCase):
    def test_the_example(self):
        house = SharedHouse(TIED, (0, 1, 0), 4)
        exactly(self, house.letter(), (((0, 1), ZERO), ((0,), ZERO)))
        exactly(self, house.wish(((1, 2),)), ((0, 1), (1, 2)))
        exactly(self, house.shown(), (1, 2, 0))
        exactly(self, house.letter(), (((1, 2), (1, 4)), ((0,), ZERO)))
        second = SharedHouse(TIED, (0, 1, 0), 5)
        exactly(self, second.hear(house.letter()), (0, 1))
        exactly(self, second.hear(house.letter()), ())
        exactly(self, second.shown(), (1, 2, 0))

    def test_the_empty_edit_changes_nothing(self):
        house = SharedHouse(TIED, (0, 1, 0), 4)
        house.wish(((2, 1),))
        letter = house.letter()
        exactly(self, house.wish(()), ())
        exactly(self, house.letter(), letter)

    def test_the_count_goes_on_and_fixed_settings_are_told_just_if_the_wish_does(self):
        house = SharedHouse(C, (0, 0), 99)
        exactly(self, house.wish(((1, 1),)), ((1, 1),))
        exactly(self, house.wish(((0, 0), (1, 1))), ((0, 0), (1, 1)))
        exactly(self, house.letter(), (((0,), (2, 99)), ((1,), (2, 99))))
        house.hear((((0,), (2, 99)), ((0,), (40, 3))))
        house.wish(((0, 0),))
        exactly(self, house.letter(), (((0,), (41, 99)), ((0,), (40, 3))))

    def test_they_show_what_houses_with_own_stamps_show(self):
        source = seeded(511)
        for book, pages in small_books(source, 200):
            if not pages:
                continue
            page = source.choice(pages)
            settings = tuple(range(len(book[0])))
            shared = [SharedHouse(book, page, h) for h in range(3)]
            own = [House(book, settings, page, h) for h in range(3)]
            letters = []
            for _ in range(25):
                h, way = source.randrange(3), source.random()
                if way < 0.4:
                    some = source.choice(pages)
                    wish = tuple((at, some[at]) for at in settings if source.random() < 0.4)
                    exactly(self, shared[h].wish(wish), edit_told(pages, wish))
                    own[h].wish(wish)
                elif way < 0.6 or not letters:
                    letters.append((shared[h].letter(), own[h].letter()))
                else:
                    one, two = source.choice(letters)
                    exactly(self, shared[h].hear(one), own[h].hear(two))
                exactly(self, tuple(enumerate(shared[h].shown())), own[h].shown())
                self.assertIn(shared[h].shown(), pages)

    def test_what_is_taken(self):
        letter = (((1, 2), (3, 5)), ((1,), (0, 1)))
        house = SharedHouse(TIED, (0, 1, 0), 0)
        exactly(self, house.hear(letter), (0, 1, 2))
        # A newer class is taken, also with the same worths; whether they are lawful is not looked at.
        exactly(self, house.hear((((1, 2), (3, 6)), ((0,), (0, 0)))), (0, 1))
        exactly(self, house.shown(), (1, 2, 1))
        exactly(self, house.hear((((0, 2), (4, 0)), ((0,), (0, 0)))), (0, 1))
        exactly(self, house.shown(), (0, 2, 1))
        # The settings of several classes come rising.
        ties = ((2, 2, 2, 2), (("tied", 0, 3, ((0, 0), (1, 1))), ("tied", 1, 2, ((0, 0), (1, 1)))))
        house = SharedHouse(ties, (0, 0, 0, 0), 0)
        exactly(self, house.hear((((1, 1), (1, 1)), ((1, 1), (1, 1)))), (0, 1, 2, 3))

    def test_an_equal_stamp_with_unlike_worths(self):
        house = SharedHouse(TIED, (0, 1, 0), 0)
        for letter, index in (
            ((((0, 2), ZERO), ((1,), ZERO)), 0), ((((0, 1), ZERO), ((1,), ZERO)), 1),
            ((((1, 2), (5, 5)), ((1,), ZERO)), 1),
        ):
            refused(self, Unlike, index, house.hear, letter)
            exactly(self, house.letter(), (((0, 1), ZERO), ((0,), ZERO)))

    def test_wrong_letters(self):
        house = SharedHouse(TIED, (0, 1, 0), 0)
        right = (((0, 1), ZERO), ((0,), ZERO))
        for letter in (None, True, 0, "ab", (), right[:1], right + right[:1], (None,) * 90000):
            refused(self, BadLetter, -1, house.hear, letter)
        wrong = [None, True, 0, "ab", (), ((0, 1),), ((0, 1), ZERO, ZERO), ((0,), ZERO), ((0, 1, 0), ZERO), (0, ZERO),
                 ((2, 1), ZERO), ((0, 3), ZERO), ((-1, 1), ZERO), ((0, True), ZERO), ((False, 1), ZERO),
                 ((None, 1), ZERO), (("0", 1), ZERO), (((0,), 1), ZERO), ("01", ZERO), nested(49, 0)]
        wrong += [((0, 1), stamp) for stamp in WRONG_STAMPS]
        for part in wrong:
            refused(self, BadLetter, 0, house.hear, (part, right[1]))
            refused(self, BadLetter, 0, house.hear, (part, None))
        refused(self, BadLetter, 1, house.hear, (((0, 2), ZERO), ((2,), ZERO)))
        refused(self, BadLetter, 1, house.hear, (((1, 2), (9, 9)), ((0,), None)))
        exactly(self, house.letter(), right)

    def test_wrong_wishes(self):
        house = SharedHouse(TIED, (0, 1, 0), 0)
        for wish, what in wrong_edits(TIED[0]):
            refused(self, BadEdit, what, house.wish, wish)
        refused(self, CannotMeet, (0, 1), house.wish, ((0, 0), (1, 2)))
        refused(self, CannotMeet, (1, 1), house.wish, ((1, 0),))
        exactly(self, house.letter(), (((0, 1), ZERO), ((0,), ZERO)))

    def test_wrong_houses_in_their_order(self):
        for page, number in (((0, 0), 0), (None, None)):
            for book, error, what in WRONG_BOOKS:
                refused(self, error, what, SharedHouse, book, page, number)
            for book in NO_PAGE:
                refused(self, NoPage, 0, SharedHouse, book, page, number)
        for page, what in wrong_pages(M[0]):
            refused(self, BadPage, what, SharedHouse, M, page, None)
        for number in WRONG_NUMBERS:
            refused(self, NotLawful, 0, SharedHouse, M, (1, 1, 0), number)
            refused(self, BadHouse, number, SharedHouse, M, (1, 0, 0), number)
        for number in (0, 99):
            exactly(self, SharedHouse(M, (1, 0, 0), number).shown(), (1, 0, 0))


if __name__ == "__main__":
    unittest.main()
