"""[26] to [28]: what can be met, the edit of a wish, why, and what is safe."""

import itertools
import unittest

from onlyforced.edits import over, within
from onlyforced.errors import BadEdit, BadSetting, CannotMeet, NoPage
from onlyforced.forcing import (
    bar, breaks_in, can_meet, edit_for, fixed, forced, reason, safe_in,
)
from onlyforced.judge import book_of
from onlyforced.safe import least_edits
from onlyforced.tables import forced_of
from tests.helpers import (
    C, H, M, NO_PAGE, WRONG_BOOKS, all_edits, all_pages, books_of_two_sayings, exactly, refused, seeded,
    small_books, tables_about, wrong_edits, wrong_settings,
)

WISH_CALLS = (can_meet, bar, forced, edit_for)
EDIT_CALLS = (safe_in, breaks_in)


def kept_books(number, many):
    """Books that some page keeps, with their pages."""
    return [(book, pages) for book, pages in small_books(seeded(number), many) if pages]


def bar_told(pages, wish):
    """[26], word by word."""
    for (i, a), (j, b) in itertools.combinations_with_replacement(wish, 2):
        if not any(page[i] == a and page[j] == b for page in pages):
            return (i, j)
    return None


def agreed_told(pages, wish):
    """The edit of the settings on which all pages with the wish agree, None if there are no such pages."""
    met = [page for page in pages if all(page[at] == worth for at, worth in wish)]
    if not met:
        return None
    return tuple((at, met[0][at]) for at in range(len(met[0])) if len({page[at] for page in met}) == 1)


def edit_told(pages, wish):
    """[27], word by word, for a wish that can be met."""
    still = [at for at, _ in agreed_told(pages, ())]
    told = [(at, worth) for at, worth in agreed_told(pages, wish) if at not in still]
    return tuple(sorted(set(told) | set(wish)))


def reason_told(pages, wish, setting):
    """[28], word by word, for a wish that can be met."""
    if setting not in dict(edit_told(pages, wish)):
        return None
    if setting in dict(wish):
        return ("wish",)
    return ("by", min(at for at, worth in wish if setting in dict(edit_told(pages, ((at, worth),)))))


class MeetTest(unittest.TestCase):
    def test_the_examples(self):
        exactly(self, bar(M, ((0, 1), (2, 1))), (0, 2))
        exactly(self, bar(C, ((0, 1),)), (0, 0))
        exactly(self, bar(((2, 2), (("own", 1, (0,)),)), ((0, 0), (1, 1))), (0, 1))
        self.assertIs(can_meet(M, ((0, 1), (2, 1))), False)
        self.assertIs(can_meet(M, ((0, 1), (2, 0))), True)
        exactly(self, bar(M, ((0, 1), (2, 0))), None)

    def test_all_wishes_page_by_page(self):
        told = {True: 0, False: 0}
        for book, pages in kept_books(261, 400):
            for wish in all_edits(book[0]):
                met = any(all(page[at] == worth for at, worth in wish) for page in pages)
                self.assertIs(can_meet(book, wish), met)
                exactly(self, bar(book, wish), bar_told(pages, wish))
                self.assertIs(bar(book, wish) is None, met)
                told[met] += 1
        self.assertGreater(min(told.values()), 1000)

    def test_the_least_pair_is_told(self):
        book = ((2, 2, 2, 2), (("own", 2, (0,)), ("either", 1, 0, 3, 0)))
        exactly(self, bar(book, ((0, 1), (1, 1), (2, 1), (3, 1))), (0, 2))
        exactly(self, bar(book, ((1, 1), (2, 0), (3, 1))), (1, 3))
        exactly(self, bar(book, ((2, 1), (3, 1))), (2, 2))
        exactly(self, bar(book, ((1, 1), (2, 1), (3, 1))), (1, 2))


class EditTest(unittest.TestCase):
    def test_the_examples(self):
        exactly(self, edit_for(M, ((0, 1),)), ((0, 1), (1, 0), (2, 0)))
        exactly(self, edit_for(M, ((0, 0),)), ((0, 0),))
        exactly(self, fixed(C), ((0, 0),))
        exactly(self, forced(C, ((1, 1),)), ((0, 0), (1, 1)))
        exactly(self, edit_for(C, ((1, 1),)), ((1, 1),))
        exactly(self, edit_for(C, ((0, 0), (1, 1))), ((0, 0), (1, 1)))

    def judge(self, book, pages):
        exactly(self, fixed(book), agreed_told(pages, ()))
        for wish in all_edits(book[0]):
            pair = bar_told(pages, wish)
            if pair is None:
                exactly(self, forced(book, wish), agreed_told(pages, wish))
                exactly(self, edit_for(book, wish), edit_told(pages, wish))
            else:
                refused(self, CannotMeet, pair, forced, book, wish)
                refused(self, CannotMeet, pair, edit_for, book, wish)

    def test_all_wishes_page_by_page(self):
        for book, pages in kept_books(271, 400):
            self.judge(book, pages)

    def test_all_books_of_two_sayings(self):
        for book, pages in books_of_two_sayings():
            if pages:
                self.judge(book, pages)

    def test_the_empty_wish_has_the_empty_edit(self):
        for book, pages in kept_books(272, 200):
            exactly(self, edit_for(book, ()), ())
            exactly(self, forced(book, ()), fixed(book))

    def test_the_edit_is_the_one_least_safe_edit(self):
        # [0.3](b), beside the tables of the books.
        for book, pages in kept_books(273, 60):
            if len(pages) <= 60 and len(book[0]) < 4:
                for wish in all_edits(book[0]):
                    if bar_told(pages, wish) is None:
                        exactly(self, (edit_for(book, wish),), least_edits((book[0], tuple(pages)), wish))

    def test_books_of_tables_force_what_the_tables_force(self):
        for table in tables_about(seeded(274), 60):
            try:
                book = book_of(table)
            except ValueError:
                continue
            for page in table[1]:
                for wish in ((), ((0, page[0]),), tuple(enumerate(page))[1:]):
                    exactly(self, forced(book, wish), forced_of(table, wish))


class ReasonTest(unittest.TestCase):
    def test_the_examples(self):
        exactly(self, reason(H, ((0, 1),), 2), ("by", 0))
        exactly(self, reason(H, ((0, 1),), 0), ("wish",))
        exactly(self, reason(C, ((1, 1),), 0), None)
        exactly(self, reason(C, ((0, 0),), 0), ("wish",))
        exactly(self, reason(H, (), 0), None)

    def test_all_wishes_page_by_page(self):
        told = {}
        for book, pages in kept_books(281, 250):
            for wish in all_edits(book[0]):
                for setting in range(len(book[0])):
                    if bar_told(pages, wish) is None:
                        found = reason(book, wish, setting)
                        exactly(self, found, reason_told(pages, wish, setting))
                        told[found] = told.get(found, 0) + 1
                    else:
                        refused(self, CannotMeet, bar_told(pages, wish), reason, book, wish, setting)
        for found in (None, ("wish",), ("by", 0), ("by", 1), ("by", 2)):
            self.assertGreater(told[found], 20, found)

    def test_the_least_of_several_reasons(self):
        book = ((2,) * 4, (("either", 0, 0, 3, 1), ("either", 1, 0, 3, 1), ("either", 2, 0, 3, 1)))
        exactly(self, reason(book, ((1, 1), (2, 1)), 3), ("by", 1))
        exactly(self, reason(book, ((0, 0), (1, 0), (2, 1)), 3), ("by", 2))
        exactly(self, reason(book, ((0, 1), (1, 1), (2, 1)), 3), ("by", 0))

    def test_wrong_things_in_their_order(self):
        for setting in wrong_settings(M[0]):
            refused(self, BadSetting, setting, reason, M, ((0, 1),), setting)
            # The setting goes ahead of whether the wish can be met.
            refused(self, BadSetting, setting, reason, M, ((0, 1), (1, 1)), setting)
            for wish, what in wrong_edits(M[0]):
                refused(self, BadEdit, what, reason, M, wish, setting)
        refused(self, CannotMeet, (0, 1), reason, M, ((0, 1), (1, 1)), 2)
        for book, error, what in WRONG_BOOKS:
            refused(self, error, what, reason, book, None, None)
            refused(self, error, what, reason, book, (), 0)
        for book in NO_PAGE:
            refused(self, NoPage, 0, reason, book, None, None)
            refused(self, NoPage, 0, reason, book, (), 0)


class SafeTest(unittest.TestCase):
    def test_the_examples(self):
        self.assertIs(safe_in(H, ((0, 1), (1, 1))), False)
        exactly(self, breaks_in(H, ((0, 1), (1, 1))), (0, 0, 0))
        exactly(self, breaks_in(H, ((1, 1),)), (0, 0, 0))
        self.assertIs(safe_in(H, ((2, 1),)), True)
        exactly(self, breaks_in(H, ((2, 1),)), None)

    def judge(self, book, pages):
        """Hold both functions against all edits; return how many are safe, and how many are not."""
        told = [0, 0]
        for edit in all_edits(book[0]):
            wrong = [page for page in pages if over(page, edit) not in pages]
            self.assertIs(safe_in(book, edit), not wrong)
            found = breaks_in(book, edit)
            if wrong:
                self.assertIn(found, wrong)
            else:
                exactly(self, found, None)
            exactly(self, breaks_in(book, edit), found)
            told[bool(wrong)] += 1
        return told

    def test_all_edits_page_by_page(self):
        told = [0, 0]
        for book, pages in kept_books(282, 400):
            told = [one + two for one, two in zip(told, self.judge(book, pages))]
        self.assertGreater(min(told), 2000)

    def test_all_books_of_two_sayings(self):
        for book, pages in books_of_two_sayings():
            if pages:
                self.judge(book, pages)

    def test_the_edit_of_a_wish_is_safe_and_within_each_safe_one(self):
        for book, pages in kept_books(283, 100):
            safe_ones = [edit for edit in all_edits(book[0]) if safe_in(book, edit)]
            for wish in all_edits(book[0]):
                if can_meet(book, wish):
                    edit = edit_for(book, wish)
                    self.assertIn(edit, safe_ones)
                    self.assertTrue(all(within(edit, one) for one in safe_ones if within(wish, one)))

    def test_edits_that_no_page_has_are_not_safe(self):
        exactly(self, breaks_in(C, ((0, 1),)), (0, 0))
        exactly(self, breaks_in(M, ((0, 1), (1, 1))), (0, 0, 0))
        self.assertIs(safe_in(M, ()), True)
        for page in all_pages(M[0]):
            self.assertIs(safe_in(M, tuple(enumerate(page))), sum(page) <= 1)


class WrongTest(unittest.TestCase):
    def test_wrong_wishes_and_edits(self):
        for book in (M, C, ((6,) * 24, ())):
            for wish, what in wrong_edits(book[0]):
                for call in WISH_CALLS + EDIT_CALLS:
                    refused(self, BadEdit, what, call, book, wish)

    def test_no_page_goes_ahead_of_the_wish(self):
        for book in NO_PAGE:
            refused(self, NoPage, 0, fixed, book)
            for wish in ((), ((0, 0),), ((9, 9),), None):
                for call in WISH_CALLS + EDIT_CALLS:
                    refused(self, NoPage, 0, call, book, wish)

    def test_wrong_books_go_first(self):
        for book, error, what in WRONG_BOOKS:
            refused(self, error, what, fixed, book)
            for wish in ((), None, ((9, 9),)):
                for call in WISH_CALLS + EDIT_CALLS:
                    refused(self, error, what, call, book, wish)


if __name__ == "__main__":
    unittest.main()
