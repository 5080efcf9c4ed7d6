"""[19] and [20]: sayings, books, and the pages that keep them."""

import itertools
import unittest

from onlyforced.books import broken, is_book, is_saying, keeps, made_book
from onlyforced.errors import BadPage, BadSaying
from tests.helpers import (
    C, M, N, WRONG_BOOKS, all_pages, all_sayings, exactly, nested, random_book, random_sizes, refused,
    saying_kept, seeded,
)

SIZES = (3, 2, 6)

RIGHT_SAYINGS = (
    ("own", 0, (0,)), ("own", 0, (2,)), ("own", 0, (0, 2)), ("own", 0, (0, 1, 2)), ("own", 1, (0, 1)),
    ("own", 2, (0, 1, 2, 3, 4, 5)), ("own", 2, (1, 5)),
    ("tied", 0, 1, ((0, 0),)), ("tied", 0, 1, ((2, 1),)), ("tied", 0, 1, ((0, 1), (2, 0))),
    ("tied", 0, 2, ((0, 5), (1, 4), (2, 0))), ("tied", 1, 2, ((0, 3), (1, 2))),
    ("either", 0, 0, 1, 0), ("either", 0, 2, 2, 5), ("either", 1, 1, 2, 0),
)

WRONG_SAYINGS = (
    None, 0, True, "own", "", (), ("own",), ("tied",), ("either",), ("free",), ("free", 0, (0,)),
    (None, 0, (0,)), (0, 0, (0,)), (True, 0, (0,)), ((), 0, (0,)), (("own",), 0, (0,)), ("Own", 0, (0,)),
    nested(50, 0), (nested(49, 0), 0, (0,)),
    ("own", 0), ("own", 0, (0,), 0), ("own", (0,), 0), ("own", 3, (0,)), ("own", -1, (0,)),
    ("own", True, (0,)), ("own", False, (0,)), ("own", None, (0,)), ("own", "0", (0,)),
    ("own", 10 ** 50, (0,)), ("own", (0,), (0,)),
    ("own", 0, ()), ("own", 0, 0), ("own", 0, None), ("own", 0, "0"), ("own", 0, (3,)), ("own", 0, (-1,)),
    ("own", 0, (0, 3)), ("own", 0, (0, 0)), ("own", 0, (1, 0)), ("own", 0, (0, 2, 1)),
    ("own", 0, (True,)), ("own", 0, (0, True)), ("own", 0, (False, 1)), ("own", 0, (None,)),
    ("own", 0, ("0",)), ("own", 0, ((0,),)), ("own", 0, (0, None)), ("own", 0, (0, 10 ** 50)),
    ("own", 0, (0,) * 90000), ("own", 0, nested(48, 0)),
    ("tied", 0, 1), ("tied", 0, 1, ((0, 0),), 0), ("tied", 0, 1, ()), ("tied", 0, 1, None),
    ("tied", 0, 1, "ab"), ("tied", 0, 1, 0), ("tied", 0, 1, (0, 0)), ("tied", 0, 1, (None,)),
    ("tied", 0, 1, ((0,),)), ("tied", 0, 1, ((0, 0, 0),)), ("tied", 0, 1, ("ab",)),
    ("tied", 0, 1, ((3, 0),)), ("tied", 0, 1, ((0, 2),)), ("tied", 0, 1, ((-1, 0),)),
    ("tied", 0, 1, ((0, -1),)), ("tied", 0, 1, ((True, 0),)), ("tied", 0, 1, ((0, False),)),
    ("tied", 0, 1, ((None, 0),)), ("tied", 0, 1, ((0, "0"),)), ("tied", 0, 1, (((0,), 0),)),
    ("tied", 0, 1, ((0, 0), (0, 0))), ("tied", 0, 1, ((0, 0), (0, 1))), ("tied", 0, 1, ((0, 1), (0, 0))),
    ("tied", 0, 1, ((0, 0), (1, 0))), ("tied", 0, 1, ((1, 0), (0, 1))), ("tied", 0, 1, ((0, 0), (1, 1), (2, 0))),
    ("tied", 0, 1, ((0, 0), (1, 1), (1, 1))), ("tied", 0, 1, ((0, 0), None)),
    ("tied", 0, 1, ((0, 0),) * 30000), ("tied", 0, 1, nested(48, 0)),
    ("tied", 1, 0, ((0, 0),)), ("tied", 0, 0, ((0, 0),)), ("tied", 0, 3, ((0, 0),)),
    ("tied", -1, 1, ((0, 0),)), ("tied", False, 1, ((0, 0),)), ("tied", 0, True, ((0, 0),)),
    ("tied", None, 1, ((0, 0),)), ("tied", 0, None, ((0, 0),)), ("tied", "0", "1", ((0, 0),)),
    ("either", 0, 0, 1), ("either", 0, 0, 1, 0, 0), ("either", 1, 0, 0, 0), ("either", 0, 0, 0, 0),
    ("either", 0, 0, 0, 1), ("either", 0, 0, 3, 0), ("either", -1, 0, 1, 0), ("either", 0, 3, 1, 0),
    ("either", 0, 0, 1, 2), ("either", 0, -1, 1, 0), ("either", 0, 0, 1, -1), ("either", False, 0, 1, 0),
    ("either", 0, 0, True, 0), ("either", 0, True, 1, 0), ("either", 0, 0, 1, False),
    ("either", None, 0, 1, 0), ("either", 0, None, 1, 0), ("either", 0, 0, None, 0),
    ("either", 0, 0, 1, None), ("either", "0", 0, "1", 0), ("either", 0, (0,), 1, 0),
    ("either", 0, 0, 1, (0,)), ("either", 0, 0, 1, nested(49, 0)),
)

WRONG_SIZES = (None, 3, "ab", (), (0,), (3, 7), (True, 2, 6), (3, 2, None), (2,) * 25)


class SayingTest(unittest.TestCase):
    def test_right_sayings(self):
        for saying in RIGHT_SAYINGS:
            self.assertIs(is_saying(SIZES, saying), True, saying)

    def test_wrong_sayings(self):
        for saying in WRONG_SAYINGS:
            self.assertIs(is_saying(SIZES, saying), False, str(saying)[:99])

    def test_nothing_is_a_saying_over_wrong_sizes(self):
        for sizes in WRONG_SIZES:
            for saying in RIGHT_SAYINGS + (None, ()):
                self.assertIs(is_saying(sizes, saying), False)

    def test_the_ends_of_the_largest_sizes(self):
        sizes = (6,) * 24
        self.assertIs(is_saying(sizes, ("own", 23, (5,))), True)
        self.assertIs(is_saying(sizes, ("own", 24, (5,))), False)
        self.assertIs(is_saying(sizes, ("own", 23, (6,))), False)
        self.assertIs(is_saying(sizes, ("either", 0, 5, 23, 5)), True)
        self.assertIs(is_saying(sizes, ("either", 0, 5, 23, 6)), False)
        tied = tuple((worth, 5 - worth) for worth in range(6))
        self.assertIs(is_saying(sizes, ("tied", 22, 23, tied)), True)
        self.assertIs(is_saying(sizes, ("tied", 22, 24, tied)), False)

    def test_all_either_and_own_sayings_of_two_settings(self):
        right = set(all_sayings((2, 3)))
        numbers = range(-1, 4)
        for i, a, j, b in itertools.product(numbers, repeat=4):
            saying = ("either", i, a, j, b)
            self.assertIs(is_saying((2, 3), saying), saying in right)
        for i, most in itertools.product(numbers, range(4)):
            for worths in itertools.product(numbers, repeat=most):
                saying = ("own", i, worths)
                self.assertIs(is_saying((2, 3), saying), saying in right)

    def test_all_tied_sayings_of_two_settings(self):
        right = set(all_sayings((2, 3)))
        cells = list(itertools.product(range(-1, 3), range(4)))
        for i, j in ((0, 1), (1, 0), (0, 0)):
            for most in range(4):
                for pairs in itertools.product(cells, repeat=most):
                    saying = ("tied", i, j, pairs)
                    self.assertIs(is_saying((2, 3), saying), saying in right)


class BookTest(unittest.TestCase):
    def test_right_books_come_back(self):
        books = (
            ((1,), ()), ((3, 2), ()), (SIZES, RIGHT_SAYINGS), (SIZES, RIGHT_SAYINGS[::-1]), M, C, N,
            (SIZES, (RIGHT_SAYINGS[0],) * 400), ((6,) * 24, (("either", 0, 5, 23, 5),)),
        )
        for book in books:
            exactly(self, made_book(book), book)
            self.assertIs(is_book(book), True)

    def test_what_is_refused_and_in_which_order(self):
        for book, error, what in WRONG_BOOKS:
            refused(self, error, what, made_book, book)
            self.assertIs(is_book(book), False)

    def test_the_first_wrong_saying_is_told(self):
        for wrong in WRONG_SAYINGS:
            for ahead in (0, 1, 15):
                sayings = RIGHT_SAYINGS[:ahead] + (wrong,) + RIGHT_SAYINGS[:2] + (None,)
                refused(self, BadSaying, ahead, made_book, (SIZES, sayings))
                self.assertIs(is_book((SIZES, sayings)), False)


class KeepsTest(unittest.TestCase):
    def test_the_examples(self):
        for page in all_pages((2, 2, 2)):
            self.assertIs(keeps(M, page), sum(page) <= 1)
            self.assertIs(broken(M, page) is None, sum(page) <= 1)
        exactly(self, broken(M, (1, 0, 1)), 1)
        exactly(self, broken(M, (1, 1, 1)), 0)
        exactly(self, broken(M, (0, 1, 1)), 2)
        exactly(self, broken(M, (0, 1, 0)), None)
        for page in all_pages((2, 2)):
            self.assertIs(keeps(C, page), page[0] == 0)
            self.assertIs(keeps(N, page), False)

    def test_each_saying_by_itself(self):
        for sizes in ((2,), (3,), (2, 3), (3, 3), (2, 1, 2)):
            for saying in all_sayings(sizes):
                book = (sizes, (saying,))
                for page in all_pages(sizes):
                    kept = saying_kept(saying, page)
                    self.assertIs(keeps(book, page), kept)
                    exactly(self, broken(book, page), None if kept else 0)

    def test_books_page_by_page(self):
        source = seeded(20)
        for _ in range(300):
            sizes = random_sizes(source, 4)
            book = random_book(source, sizes, 8)
            for page in all_pages(sizes):
                wrong = [at for at, saying in enumerate(book[1]) if not saying_kept(saying, page)]
                exactly(self, broken(book, page), wrong[0] if wrong else None)
                self.assertIs(keeps(book, page), not wrong)

    def test_a_book_of_no_sayings_and_one_of_400(self):
        for page in all_pages((3, 2)):
            self.assertIs(keeps(((3, 2), ()), page), True)
            exactly(self, broken(((3, 2), ()), page), None)
        book = ((3, 2), (("either", 0, 0, 1, 1),) * 399 + (("own", 0, (0, 1)),))
        self.assertIs(keeps(book, (1, 1)), True)
        exactly(self, broken(book, (2, 1)), 399)
        exactly(self, broken(book, (2, 0)), 0)

    def test_what_is_no_page_keeps_nothing_and_is_refused(self):
        cases = (
            (None, -1), (0, -1), ("000", -1), ((), -1), ((0, 0), -1), ((0, 0, 0, 0), -1),
            ((2, 0, 0), 0), ((0, -1, 0), 1), ((0, 0, True), 2), ((False, 0, 0), 0), ((0, None, 5), 1),
            ((0, "0", 0), 1), ((0, 0, (0,)), 2), ((0, 0, nested(49, 0)), 2),
        )
        for page, what in cases:
            self.assertIs(keeps(M, page), False)
            refused(self, BadPage, what, broken, M, page)
            self.assertIs(keeps(((2, 2, 2), ()), page), False)

    def test_wrong_books_go_ahead_of_the_page(self):
        for book, error, what in WRONG_BOOKS:
            for page in ((0, 0), None, (9, 9), ()):
                refused(self, error, what, broken, book, page)
                self.assertIs(keeps(book, page), False)


if __name__ == "__main__":
    unittest.main()
