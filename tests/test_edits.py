"""[3] to [6]: edits, an edit beside a page, and two edits."""

import itertools
import unittest

from onlyforced.edits import (
    agreed, cut_to, fits, is_edit, laid, made_edit, over, together, whole, within,
)
from onlyforced.errors import BadEdit, BadSizes
from onlyforced.pages import changed
from tests.helpers import exactly, nested, refused

SIZES = (3, 2, 6)

RIGHT_EDITS = (
    (), ((0, 0),), ((0, 2),), ((2, 5),), ((0, 2), (2, 0)), ((1, 1), (2, 5)), ((0, 2), (1, 1), (2, 5)),
)

WRONG_PARTS = (
    None, 0, True, "ab", "", (), (0,), (0, 0, 0), ((0, 0),), ((0, 0), (0, 0)),
    (3, 0), (-1, 0), (-3, 0), (True, 0), (False, 0), (None, 0), ("0", 0), ((0,), 0), (10 ** 50, 0),
    (2, 6), (2, -1), (2, True), (2, False), (2, None), (2, "0"), (2, (0,)), (2, 10 ** 50),
    nested(49, 0), (2, nested(48, 0)),
)


def small_edits(sizes):
    """All edits over sizes."""
    choices = [[None] + list(range(many)) for many in sizes]
    for worths in itertools.product(*choices):
        yield tuple((at, worth) for at, worth in enumerate(worths) if worth is not None)


class MadeEditTest(unittest.TestCase):
    def test_right_edits_come_back(self):
        for edit in RIGHT_EDITS:
            exactly(self, made_edit(SIZES, edit), edit)
            self.assertIs(is_edit(SIZES, edit), True)
        long = tuple((at, 5) for at in range(24))
        exactly(self, made_edit((6,) * 24, long), long)

    def test_wrong_sizes_go_ahead(self):
        for edit in ((), ((0, 0),), None, ((9, 9),), "ab"):
            refused(self, BadSizes, -1, made_edit, (), edit)
            refused(self, BadSizes, -1, made_edit, None, edit)
            refused(self, BadSizes, 1, made_edit, (2, 0), edit)
            for sizes in ((), None, (2, 0), (True,), (2,) * 25, "ab", 2):
                self.assertIs(is_edit(sizes, edit), False)

    def test_no_tuple(self):
        for thing in (None, 0, 5, True, False, "", "ab"):
            refused(self, BadEdit, -1, made_edit, SIZES, thing)
            self.assertIs(is_edit(SIZES, thing), False)

    def test_the_first_wrong_part_is_told(self):
        for wrong in WRONG_PARTS:
            for ahead in ((), ((0, 1),), ((0, 1), (1, 1))):
                for behind in ((), ((2, 0),), (None,), ((0, 0),)):
                    thing = ahead + (wrong,) + behind
                    refused(self, BadEdit, len(ahead), made_edit, SIZES, thing)
                    self.assertIs(is_edit(SIZES, thing), False)

    def test_settings_rise(self):
        refused(self, BadEdit, 1, made_edit, SIZES, ((0, 0), (0, 0)))
        refused(self, BadEdit, 1, made_edit, SIZES, ((0, 0), (0, 1)))
        refused(self, BadEdit, 1, made_edit, SIZES, ((1, 0), (0, 0)))
        refused(self, BadEdit, 2, made_edit, SIZES, ((0, 0), (2, 0), (1, 0)))
        refused(self, BadEdit, 3, made_edit, SIZES, ((0, 0), (1, 0), (2, 0), (2, 0)))

    def test_worths_are_those_of_the_setting(self):
        for setting, worth in itertools.product(range(-1, 4), range(-1, 7)):
            right = 0 <= setting < 3 and 0 <= worth < SIZES[setting]
            self.assertIs(is_edit(SIZES, ((setting, worth),)), right)


class EditAndPageTest(unittest.TestCase):
    def test_over(self):
        exactly(self, over((0, 1, 2), ()), (0, 1, 2))
        exactly(self, over((0, 1, 2), ((1, 0),)), (0, 0, 2))
        exactly(self, over((0, 1, 2), ((0, 2), (2, 5))), (2, 1, 5))
        exactly(self, over((0, 1, 2), ((0, 2), (1, 0), (2, 5))), (2, 0, 5))
        exactly(self, over((0, 1, 2), ((0, 0), (1, 1))), (0, 1, 2))

    def test_fits(self):
        self.assertIs(fits((0, 1, 2), ()), True)
        self.assertIs(fits((0, 1, 2), ((1, 1),)), True)
        self.assertIs(fits((0, 1, 2), ((0, 0), (1, 1), (2, 2))), True)
        self.assertIs(fits((0, 1, 2), ((1, 0),)), False)
        self.assertIs(fits((0, 1, 2), ((0, 0), (2, 1))), False)
        self.assertIs(fits((0, 1, 2), ((0, 1), (2, 2))), False)

    def test_whole(self):
        exactly(self, whole((4,)), ((0, 4),))
        exactly(self, whole((0, 1, 2)), ((0, 0), (1, 1), (2, 2)))
        exactly(self, whole((2, 0)), ((0, 2), (1, 0)))

    def test_cut_to(self):
        edit = ((0, 2), (1, 0), (3, 1))
        exactly(self, cut_to(edit, (0, 1, 2, 3)), edit)
        exactly(self, cut_to(edit, (1, 3)), ((1, 0), (3, 1)))
        exactly(self, cut_to(edit, (0,)), ((0, 2),))
        exactly(self, cut_to(edit, (2,)), ())
        exactly(self, cut_to(edit, (2, 4)), ())
        exactly(self, cut_to((), (0, 1)), ())

    def test_agreed(self):
        exactly(self, agreed((0, 1, 2), (0, 2, 2)), ((0, 0), (2, 2)))
        exactly(self, agreed((0, 1, 2), (0, 1, 2)), ((0, 0), (1, 1), (2, 2)))
        exactly(self, agreed((0, 1, 2), (1, 2, 0)), ())

    def test_what_a_page_and_its_edits_hold(self):
        for x, y in itertools.product(itertools.product(range(3), range(2), range(2)), repeat=2):
            exactly(self, over(x, whole(y)), y)
            exactly(self, over(x, cut_to(whole(y), changed(x, y))), y)
            self.assertIs(fits(x, whole(y)), x == y)
            exactly(self, tuple(at for at, _ in agreed(x, y)),
                    tuple(at for at in range(3) if at not in changed(x, y)))


class TwoEditsTest(unittest.TestCase):
    def test_the_example(self):
        exactly(self, laid(((0, 1), (1, 1)), ((1, 0),)), ((0, 1), (1, 0)))
        exactly(self, together(((0, 1), (1, 1)), ((1, 0),)), None)

    def test_without_a_common_setting(self):
        for act in (laid, together):
            exactly(self, act(((2, 1),), ((0, 1), (1, 0))), ((0, 1), (1, 0), (2, 1)))
            exactly(self, act(((0, 1), (1, 0)), ((2, 1),)), ((0, 1), (1, 0), (2, 1)))

    def test_with_a_common_setting(self):
        exactly(self, together(((0, 1), (1, 1)), ((1, 1), (2, 0))), ((0, 1), (1, 1), (2, 0)))
        exactly(self, laid(((0, 1), (1, 1)), ((1, 1), (2, 0))), ((0, 1), (1, 1), (2, 0)))
        exactly(self, together(((0, 1), (1, 1)), ((1, 0), (2, 0))), None)
        exactly(self, laid(((0, 1), (1, 1)), ((1, 0), (2, 0))), ((0, 1), (1, 0), (2, 0)))
        exactly(self, together(((1, 0),), ((0, 1), (1, 1))), None)
        exactly(self, laid(((1, 0),), ((0, 1), (1, 1))), ((0, 1), (1, 1)))

    def test_with_nothing_on_a_side(self):
        edit = ((0, 1), (2, 0))
        for act in (laid, together):
            exactly(self, act((), edit), edit)
            exactly(self, act(edit, ()), edit)
            exactly(self, act((), ()), ())
        self.assertIs(within((), edit), True)
        self.assertIs(within(edit, ()), False)
        self.assertIs(within((), ()), True)

    def test_within(self):
        edit = ((0, 1), (2, 0))
        self.assertIs(within(edit, edit), True)
        self.assertIs(within(((2, 0),), edit), True)
        self.assertIs(within(((2, 1),), edit), False)
        self.assertIs(within(((1, 0),), edit), False)
        self.assertIs(within(((0, 1), (1, 0)), edit), False)
        self.assertIs(within(edit, ((0, 1), (1, 1), (2, 0))), True)
        self.assertIs(within(edit, ((0, 1),)), False)

    def test_all_small_edits(self):
        edits = list(small_edits((2, 2, 1)))
        pages = list(itertools.product(range(2), range(2), range(1)))
        for one, two in itertools.product(edits, repeat=2):
            both = laid(one, two)
            self.assertIs(is_edit((2, 2, 1), both), True)
            for page in pages:
                exactly(self, over(page, both), over(over(page, one), two))
            told = sorted(set(dict(one)) | set(dict(two)))
            exactly(self, [at for at, _ in both], told)
            part = any(dict(two).get(at, worth) != worth for at, worth in one)
            exactly(self, together(one, two), None if part else both)
            self.assertIs(within(one, two), set(one) <= set(two))


if __name__ == "__main__":
    unittest.main()
