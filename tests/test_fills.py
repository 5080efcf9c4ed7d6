"""[25]: least pages, and pages in order."""

import unittest

from onlyforced.errors import BadEdit, BadMany, NoPage
from onlyforced.fills import least_page, pages_of
from tests.helpers import (
    C, M, NO_PAGE, WRONG_BOOKS, all_edits, all_pages, exactly, nested, refused, seeded, small_books,
)

WRONG_MOST = (-1, 201, 10 ** 50, -(10 ** 50), True, False, None, "1", (), (1,), nested(50, 1))


class LeastPageTest(unittest.TestCase):
    def test_the_examples(self):
        exactly(self, least_page(M, ((1, 1),)), (0, 1, 0))
        exactly(self, least_page(M, ((0, 1), (1, 1))), None)
        exactly(self, least_page(M, ()), (0, 0, 0))
        exactly(self, least_page(C, ((0, 1),)), None)
        exactly(self, least_page(C, ((1, 1),)), (0, 1))

    def test_all_wishes_page_by_page(self):
        for book, pages in small_books(seeded(251), 250):
            if not pages:
                continue
            for wish in all_edits(book[0]):
                wanted = [page for page in pages if all(page[at] == worth for at, worth in wish)]
                exactly(self, least_page(book, wish), wanted[0] if wanted else None)

    def test_a_book_that_no_page_keeps(self):
        for book in NO_PAGE:
            for wish in ((), ((0, 0),), ((9, 9),), None):
                refused(self, NoPage, 0, least_page, book, wish)

    def test_wrong_wishes(self):
        cases = (
            (None, -1), ("ab", -1), (1, -1), ((None,), 0), ((0, 1), 0), (((3, 0),), 0), (((0, 2),), 0),
            (((0, True),), 0), (((0, 1), (0, 1)), 1), (((1, 0), (0, 1)), 1), (((0, 1), (1, 0), ()), 2),
        )
        for wish, what in cases:
            refused(self, BadEdit, what, least_page, M, wish)

    def test_wrong_books_go_ahead_of_the_wish(self):
        for book, error, what in WRONG_BOOKS:
            for wish in ((), None, ((9, 9),)):
                refused(self, error, what, least_page, book, wish)


class PagesOfTest(unittest.TestCase):
    def test_the_examples(self):
        exactly(self, pages_of(M, 2), ((0, 0, 0), (0, 0, 1)))
        exactly(self, pages_of(M, 0), ())
        exactly(self, pages_of(M, 4), ((0, 0, 0), (0, 0, 1), (0, 1, 0), (1, 0, 0)))
        exactly(self, pages_of(M, 200), pages_of(M, 4))

    def test_page_by_page(self):
        for book, pages in small_books(seeded(252)):
            if not pages:
                continue
            for most in (0, 1, 2, 3, 7, len(pages) - 1, len(pages), len(pages) + 1, 199, 200):
                if 0 <= most <= 200:
                    exactly(self, pages_of(book, most), tuple(pages[:most]))

    def test_as_many_as_are_told_at_most(self):
        book = ((6, 6, 6), ())
        for most in (0, 1, 100, 199, 200):
            exactly(self, pages_of(book, most), tuple(all_pages((6, 6, 6))[:most]))
        book = ((6, 6, 6), (("own", 1, (0, 1, 2, 3, 5)),))
        wanted = [page for page in all_pages((6, 6, 6)) if page[1] != 4]
        exactly(self, pages_of(book, 200), tuple(wanted[:200]))
        exactly(self, len(pages_of(((5, 5, 2, 4), ()), 200)), 200)

    def test_a_book_that_no_page_keeps(self):
        for book in NO_PAGE:
            for most in (0, 1, 200) + WRONG_MOST:
                refused(self, NoPage, 0, pages_of, book, most)

    def test_wrong_numbers(self):
        for most in WRONG_MOST:
            for book in (M, C, ((1,), ())):
                refused(self, BadMany, most, pages_of, book, most)

    def test_wrong_books_go_ahead_of_the_number(self):
        for book, error, what in WRONG_BOOKS:
            for most in (1, -1, None):
                refused(self, error, what, pages_of, book, most)


if __name__ == "__main__":
    unittest.main()
