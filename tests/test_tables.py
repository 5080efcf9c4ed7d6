"""[7] and [8]: tables, and what a table tells of wishes and of pairs."""

import itertools
import unittest

from onlyforced.edits import fits, is_edit
from onlyforced.errors import BadEdit, BadSetting, BadSizes, BadTable, CannotMeet
from onlyforced.tables import fixed_of, forced_of, having, is_table, lawful, made_table, pairs_of
from tests.helpers import T, exactly, nested, random_edit, random_table, refused, seeded

PAGES_200 = tuple(itertools.islice(itertools.product(range(6), repeat=3), 200))
PAGES_201 = tuple(itertools.islice(itertools.product(range(6), repeat=3), 201))

RIGHT_TABLES = (
    T,
    ((1,), ((0,),)),
    ((3, 2), ((2, 1),)),
    ((6, 6, 6), PAGES_200),
    ((1,) * 24, ((0,) * 24,)),
)

WRONG_TABLES = (
    (None, BadTable, -1),
    (3, BadTable, -1),
    ("ab", BadTable, -1),
    ((), BadTable, -1),
    ((T,), BadTable, -1),
    (((3, 2),), BadTable, -1),
    (((3, 2), ((0, 0),), ()), BadTable, -1),
    (((3, 2), None), BadTable, -1),
    (((3, 2), 1), BadTable, -1),
    (((3, 2), "ab"), BadTable, -1),
    (((3, 2), ()), BadTable, -1),
    (((6, 6, 6), PAGES_201), BadTable, -1),
    ((None, ()), BadTable, -1),
    (((7,), PAGES_201), BadTable, -1),
    (((), ((0, 0),)), BadSizes, -1),
    ((None, ((0, 0),)), BadSizes, -1),
    (("ab", (None,)), BadSizes, -1),
    (((3, 7), ((0, 0),)), BadSizes, 1),
    (((True, 2), (None,)), BadSizes, 0),
    (((3, 2), (None,)), BadTable, 0),
    (((3, 2), ((0,),)), BadTable, 0),
    (((3, 2), ((0, 0, 0),)), BadTable, 0),
    (((3, 2), ((0, 0), (0, 2))), BadTable, 1),
    (((3, 2), ((0, 0), (False, True))), BadTable, 1),
    (((3, 2), ((0, 0), (0, 1), (0, 1))), BadTable, 2),
    (((3, 2), ((0, 0), (0, 0), (3, 3))), BadTable, 1),
    (((3, 2), ((0, 0), (1, 1), (1, 0), (2, 0))), BadTable, 2),
    (((3, 2), ((1, 0), (0, 1))), BadTable, 1),
    (((3, 2), ((0, 0), "ab", (0, 0))), BadTable, 1),
    (((3, 2), ((0, 0), nested(48, 1))), BadTable, 1),
)


class TableTest(unittest.TestCase):
    def test_right_tables_come_back(self):
        for table in RIGHT_TABLES:
            exactly(self, made_table(table), table)
            self.assertIs(is_table(table), True)

    def test_what_is_refused_and_in_which_order(self):
        for table, error, what in WRONG_TABLES:
            refused(self, error, what, made_table, table)
            self.assertIs(is_table(table), False)

    def test_each_function_refuses_wrong_tables_ahead_of_all_else(self):
        for table, error, what in WRONG_TABLES:
            for wish in ((), None, ((9, 9),)):
                refused(self, error, what, having, table, wish)
                refused(self, error, what, forced_of, table, wish)
            refused(self, error, what, fixed_of, table)
            refused(self, error, what, pairs_of, table, 0, 0)
            refused(self, error, what, pairs_of, table, None, 9)

    def test_lawful(self):
        for page in itertools.product(range(3), range(2)):
            self.assertIs(lawful(T, page), page in T[1])
        for table in RIGHT_TABLES:
            for page in table[1]:
                self.assertIs(lawful(table, page), True)
        self.assertIs(lawful(((6, 6, 6), PAGES_200), PAGES_201[-1]), False)

    def test_what_is_no_page_is_not_lawful(self):
        things = (
            None, 0, "ab", (), (0,), (0, 0, 0), (3, 0), (-1, 0), (False, False), (True, True),
            (1, True), (0, None), ("0", "0"), ((0, 0),), nested(50, 0),
        )
        for thing in things:
            self.assertIs(lawful(T, thing), False)

    def test_nothing_is_lawful_in_a_wrong_table(self):
        for table, _, _ in WRONG_TABLES:
            for page in ((0, 0), (0, 1), (1, 1), None, (0,), (0, 0, 0), "ab"):
                self.assertIs(lawful(table, page), False)


class WishesTest(unittest.TestCase):
    def test_the_examples(self):
        exactly(self, forced_of(T, ((0, 1),)), ((0, 1), (1, 1)))
        exactly(self, forced_of(T, ((1, 0),)), ((0, 0), (1, 0)))
        exactly(self, forced_of(T, ((1, 1),)), ((1, 1),))
        exactly(self, fixed_of(T), ())
        refused(self, CannotMeet, 0, forced_of, T, ((0, 1), (1, 0)))
        exactly(self, having(T, ((1, 1),)), ((0, 1), (1, 1), (2, 1)))

    def test_having(self):
        exactly(self, having(T, ()), T[1])
        exactly(self, having(T, ((0, 2),)), ((2, 1),))
        exactly(self, having(T, ((0, 0), (1, 1))), ((0, 1),))
        exactly(self, having(T, ((0, 2), (1, 0))), ())

    def test_fixed(self):
        exactly(self, fixed_of(((3, 2), ((2, 1),))), ((0, 2), (1, 1)))
        exactly(self, fixed_of(((3, 2, 2), ((0, 1, 0), (1, 1, 0), (1, 1, 1)))), ((1, 1),))
        exactly(self, forced_of(T, ()), fixed_of(T))
        exactly(self, forced_of(((3, 1), ((0, 0), (2, 0))), ((0, 2),)), ((0, 2), (1, 0)))

    def test_wishes_that_cannot_be_met(self):
        for wish in (((0, 1), (1, 0)), ((0, 2), (1, 0))):
            refused(self, CannotMeet, 0, forced_of, T, wish)
        refused(self, CannotMeet, 0, forced_of, ((3, 2), ((0, 0), (2, 1))), ((0, 1),))

    def test_wrong_wishes(self):
        cases = (
            (None, -1), ("ab", -1), (1, -1), ((None,), 0), ((0, 1), 0), (((2, 0),), 0), (((0, 3),), 0),
            (((0, True),), 0), (((0, 1), (0, 1)), 1), (((1, 0), (0, 1)), 1), (((0, 1), (1, 0), ()), 2),
        )
        for wish, what in cases:
            refused(self, BadEdit, what, having, T, wish)
            refused(self, BadEdit, what, forced_of, T, wish)

    def test_against_what_the_document_says(self):
        source = seeded(8)
        for _ in range(300):
            table = random_table(source)
            sizes, pages = table
            wish = random_edit(source, sizes)
            wanted = tuple(page for page in pages if fits(page, wish))
            exactly(self, having(table, wish), wanted)
            if not wanted:
                refused(self, CannotMeet, 0, forced_of, table, wish)
                continue
            told = []
            for at in range(len(sizes)):
                worths = sorted({page[at] for page in wanted})
                if len(worths) == 1:
                    told.append((at, worths[0]))
            exactly(self, forced_of(table, wish), tuple(told))
            self.assertIs(is_edit(sizes, forced_of(table, wish)), True)
            self.assertLessEqual(set(wish), set(told))


class PairsOfTest(unittest.TestCase):
    def test_the_examples(self):
        exactly(self, pairs_of(T, 1, 0), ((0, 0), (1, 0), (1, 1), (1, 2)))
        exactly(self, pairs_of(T, 0, 0), ((0, 0), (1, 1), (2, 2)))

    def test_both_ways_and_one_setting_twice(self):
        exactly(self, pairs_of(T, 0, 1), ((0, 0), (0, 1), (1, 1), (2, 1)))
        exactly(self, pairs_of(T, 1, 1), ((0, 0), (1, 1)))
        table = ((2, 2, 2), ((0, 0, 0), (0, 1, 0), (1, 0, 1)))
        exactly(self, pairs_of(table, 0, 2), ((0, 0), (1, 1)))
        exactly(self, pairs_of(table, 2, 1), ((0, 0), (0, 1), (1, 0)))

    def test_against_what_the_document_says(self):
        source = seeded(88)
        for _ in range(100):
            table = random_table(source)
            for i, j in itertools.product(range(len(table[0])), repeat=2):
                wanted = tuple(sorted({(page[i], page[j]) for page in table[1]}))
                exactly(self, pairs_of(table, i, j), wanted)

    def test_what_is_no_setting(self):
        wrong = (2, -1, -2, True, False, None, "0", (), (0,), 10 ** 50, nested(50, 0))
        for thing in wrong:
            refused(self, BadSetting, thing, pairs_of, T, thing, 0)
            refused(self, BadSetting, thing, pairs_of, T, 1, thing)
            for other in wrong:
                refused(self, BadSetting, thing, pairs_of, T, thing, other)


if __name__ == "__main__":
    unittest.main()
