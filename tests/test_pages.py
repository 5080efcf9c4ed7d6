"""[1], [2] and [4]: sizes, pages, and what two or three pages tell."""

import itertools
import unittest

from onlyforced.errors import BadPage, BadSetting, BadSizes
from onlyforced.pages import changed, is_page, is_sizes, made_page, made_setting, made_sizes, move
from tests.helpers import exactly, nested, refused

RIGHT_SIZES = ((1,), (6,), (2, 3), (1, 2, 3, 4, 5, 6), (6,) * 24, (1,) * 24)

NO_TUPLES = (None, 3, 0, -1, True, False, "", "ab", 10 ** 50)

WRONG_WORTHS = (0, 7, -1, 10 ** 50, True, False, None, "2", (2,), (), nested(49, 1))


class SizesTest(unittest.TestCase):
    def test_right_sizes_come_back(self):
        for sizes in RIGHT_SIZES:
            exactly(self, made_sizes(sizes), sizes)
            self.assertIs(is_sizes(sizes), True)

    def test_no_tuple_of_1_to_24(self):
        for thing in NO_TUPLES + ((), (2,) * 25, (0,) * 25, (None,) * 100):
            refused(self, BadSizes, -1, made_sizes, thing)
            self.assertIs(is_sizes(thing), False)

    def test_the_first_wrong_one_is_told(self):
        for wrong in WRONG_WORTHS:
            for ahead in (0, 1, 5):
                for behind in ((), (2,), (0, 2), (None,)):
                    thing = (2,) * ahead + (wrong,) + behind
                    refused(self, BadSizes, ahead, made_sizes, thing)
                    self.assertIs(is_sizes(thing), False)
            refused(self, BadSizes, 23, made_sizes, (1,) * 23 + (wrong,))
            refused(self, BadSizes, 0, made_sizes, (wrong,) * 24)

    def test_what_made_setting_refuses(self):
        for setting in (0, 1):
            exactly(self, made_setting((2, 6), setting), setting)
        for thing in (2, 5, -1, True, False, None, "0", (0,), 10 ** 50):
            refused(self, BadSetting, thing, made_setting, (2, 6), thing)


class PageTest(unittest.TestCase):
    def test_right_pages_come_back(self):
        for sizes in RIGHT_SIZES:
            for page in (tuple(0 for _ in sizes), tuple(many - 1 for many in sizes)):
                exactly(self, made_page(sizes, page), page)
                self.assertIs(is_page(sizes, page), True)

    def test_all_pages_of_small_sizes(self):
        for page in itertools.product(range(-1, 5), repeat=2):
            right = 0 <= page[0] < 3 and 0 <= page[1] < 2
            self.assertIs(is_page((3, 2), page), right)

    def test_wrong_sizes_go_ahead(self):
        for page in ((0, 0), None, (0,), (9, 9), "ab"):
            refused(self, BadSizes, -1, made_page, (), page)
            refused(self, BadSizes, -1, made_page, None, page)
            refused(self, BadSizes, 1, made_page, (2, 7), page)
            refused(self, BadSizes, 0, made_page, (True, 0), page)
            for sizes in ((), None, (2, 7), (True, 2), (2,) * 25, "ab", 2):
                self.assertIs(is_page(sizes, page), False)
        self.assertIs(is_page((2,) * 25, (0,) * 25), False)

    def test_no_tuple_as_long_as_the_sizes(self):
        for thing in NO_TUPLES + ((), (0,), (0, 0, 0), (9,), (None,) * 3, "00"):
            refused(self, BadPage, -1, made_page, (3, 2), thing)
            self.assertIs(is_page((3, 2), thing), False)

    def test_the_first_wrong_worth_is_told(self):
        sizes = (3, 2, 6)
        for wrong in (6, -1, 10 ** 50, True, False, None, "0", (0,), (), nested(49, 0)):
            for setting in range(3):
                thing = (0,) * setting + (wrong,) + (9,) * (2 - setting)
                refused(self, BadPage, setting, made_page, sizes, thing)
                self.assertIs(is_page(sizes, thing), False)
        refused(self, BadPage, 1, made_page, sizes, (2, 2, 5))
        refused(self, BadPage, 0, made_page, sizes, (3, 1, 5))
        refused(self, BadPage, 2, made_page, sizes, (2, 1, 6))


class TwoAndThreePagesTest(unittest.TestCase):
    def test_the_examples_of_the_move(self):
        exactly(self, move((0, 1), (0, 0), (2, 1)), (0, 1))
        exactly(self, move((0, 0), (0, 1), (2, 1)), (0, 1))
        exactly(self, move((2, 1), (0, 1), (0, 0)), (0, 1))

    def test_changed(self):
        exactly(self, changed((0, 1, 2), (0, 2, 1)), (1, 2))
        exactly(self, changed((0, 1, 2), (0, 1, 2)), ())
        exactly(self, changed((0, 1, 2), (1, 2, 0)), (0, 1, 2))
        exactly(self, changed((5,), (5,)), ())
        exactly(self, changed((0,) * 24, (0,) * 23 + (1,)), (23,))

    def test_the_move_of_pages_that_agree_or_do_not(self):
        exactly(self, move((0, 1, 2), (0, 1, 2), (3, 3, 3)), (0, 1, 2))
        exactly(self, move((0, 1, 2), (1, 2, 3), (4, 4, 5)), (4, 4, 5))
        exactly(self, move((0, 1, 2), (1, 2, 0), (2, 0, 1)), (2, 0, 1))
        exactly(self, move((0, 1, 2), (0, 2, 1), (4, 4, 5)), (0, 4, 5))
        exactly(self, move((3,), (3,), (3,)), (3,))

    def test_the_move_setting_by_setting(self):
        for x, y, z in itertools.product(range(3), repeat=3):
            wanted = x if x == y else z
            exactly(self, move((x, 0), (y, 0), (z, 1)), (wanted, 0))


if __name__ == "__main__":
    unittest.main()
