"""[15] and [16]: meek desks, and near pages."""

import itertools
import unittest

from onlyforced.edits import fits
from onlyforced.errors import BadEdit, BadPage, CannotMeet, NotLawful
from onlyforced.judge import writable
from onlyforced.meek import meek_right, near, stuck
from tests.helpers import (
    E, T, THINGS, all_edits, all_pages, exactly, random_thing, refused, seeded, spoilt, tables_about,
    wrong_edits, wrong_pages,
)
from tests.test_tables import WRONG_TABLES
from tests.test_writable import small_tables


def with_wish(pages, wish):
    return [page for page in pages if all(page[at] == worth for at, worth in wish)]


def forced_settings(pages, wish):
    """The settings on which all pages with the wish agree."""
    met = with_wish(pages, wish)
    return [at for at in range(len(met[0])) if len({page[at] for page in met}) == 1]


def differ(x, y):
    return {at for at, (a, b) in enumerate(zip(x, y)) if a != b}


def meek_told(table, page, wish, new):
    """[15], word by word."""
    if page not in table[1] or new not in with_wish(table[1], wish):
        return False
    return all(at in forced_settings(table[1], wish) for at in differ(page, new))


def near_told(table, page, wish):
    """[16], word by word."""
    met = with_wish(table[1], wish)
    return tuple(one for one in met if not any(differ(page, other) < differ(page, one) for other in met))


class MeekTest(unittest.TestCase):
    def test_the_examples(self):
        self.assertIs(meek_right(T, (0, 0), ((0, 1),), (1, 1)), True)
        self.assertIs(meek_right(E, (0, 0, 0), ((0, 1),), (1, 0, 1)), False)
        self.assertIs(meek_right(E, (0, 0, 0), ((0, 1),), (1, 1, 0)), False)
        exactly(self, stuck(T), None)

    def judge(self, table):
        """Hold `meek_right` against all pages and wishes; return where no desk can be meek."""
        sizes, pages = table
        nowhere = []
        for wish in all_edits(sizes):
            for page in pages:
                told = [meek_right(table, page, wish, new) for new in all_pages(sizes)]
                exactly(self, told, [meek_told(table, page, wish, new) for new in all_pages(sizes)])
                if with_wish(pages, wish) and not any(told):
                    nowhere.append((page, wish))
        return nowhere

    def judge_stuck(self, table, nowhere):
        found = stuck(table)
        if writable(table):
            self.assertEqual(nowhere, [])
            exactly(self, found, None)
        else:
            self.assertIs(type(found), tuple)
            self.assertIn(found, nowhere)
        exactly(self, stuck(table), found)

    def test_all_small_tables(self):
        for sizes in ((3,), (2, 2), (3, 2)):
            for table in small_tables(sizes):
                self.judge_stuck(table, self.judge(table))

    def test_tables_of_all_kinds(self):
        told = [0, 0]
        for table in [T, E] + list(tables_about(seeded(15), 60)):
            nowhere = self.judge(table)
            self.judge_stuck(table, nowhere)
            told[bool(nowhere)] += 1
        self.assertGreater(min(told), 10)

    def test_all_tables_of_three_settings_of_two_worths(self):
        for table in small_tables((2, 2, 2)):
            found = stuck(table)
            self.assertIs(found is None, writable(table))
            if found is not None:
                page, wish = found
                self.assertIn(page, table[1])
                self.assertTrue(with_wish(table[1], wish))
                self.assertFalse(any(meek_told(table, page, wish, new) for new in table[1]))

    def test_a_page_that_has_the_wish_may_stay(self):
        for table in [T, E] + list(tables_about(seeded(16), 20)):
            for page in table[1]:
                for wish in ((), ((0, page[0]),), tuple(enumerate(page))):
                    self.assertIs(meek_right(table, page, wish, page), True)

    def test_what_is_not_lawful_or_cannot_be_met_is_not_meek(self):
        self.assertIs(meek_right(T, (1, 0), ((1, 1),), (1, 1)), False)
        self.assertIs(meek_right(T, (0, 0), ((0, 1),), (1, 0)), False)
        self.assertIs(meek_right(T, (0, 0), ((0, 1), (1, 0)), (0, 0)), False)
        self.assertIs(meek_right(T, (0, 0), ((0, 1),), (0, 0)), False)

    def test_it_judges_all_things(self):
        right = (T, (0, 0), ((0, 1),), (1, 1))
        self.assertIs(meek_right(*right), True)
        for at in range(4):
            for thing in THINGS:
                self.assertIs(type(meek_right(*right[:at], thing, *right[at + 1:])), bool)
        for table, _, _ in WRONG_TABLES:
            self.assertIs(meek_right(table, (0, 0), (), (0, 0)), False)
        for wish, _ in wrong_edits(T[0]):
            self.assertIs(meek_right(T, (0, 0), wish, (0, 0)), False)
        for page, _ in wrong_pages(T[0]):
            self.assertIs(meek_right(T, page, (), (0, 0)), False)
            self.assertIs(meek_right(T, (0, 0), (), page), False)
        source = seeded(17)
        for _ in range(2000):
            at = source.randrange(4)
            thing = source.choice((spoilt(source, right[at]), random_thing(source, 4)))
            self.assertIs(type(meek_right(*right[:at], thing, *right[at + 1:])), bool)
        for one, two in itertools.product(THINGS, repeat=2):
            self.assertIs(meek_right(one, two, two, one), False)

    def test_stuck_refuses_wrong_tables(self):
        for table, error, what in WRONG_TABLES:
            refused(self, error, what, stuck, table)


class NearTest(unittest.TestCase):
    def test_the_examples(self):
        exactly(self, near(T, (0, 1), ((1, 0),)), ((0, 0),))
        exactly(self, near(E, (0, 0, 0), ((0, 1),)), ((1, 0, 1), (1, 1, 0)))
        exactly(self, near(((2, 3), ((0, 0), (1, 1), (1, 2))), (0, 0), ((0, 1),)), ((1, 1), (1, 2)))

    def test_page_by_page(self):
        for table in [T, E] + list(tables_about(seeded(18), 150)):
            for page, wish in itertools.product(table[1], all_edits(table[0])):
                if with_wish(table[1], wish):
                    exactly(self, near(table, page, wish), near_told(table, page, wish))
                else:
                    refused(self, CannotMeet, 0, near, table, page, wish)

    def test_under_a_writable_table_there_is_a_meek_one_alone(self):
        for table in tables_about(seeded(19), 60):
            for page, wish in itertools.product(table[1], all_edits(table[0])):
                if writable(table) and with_wish(table[1], wish):
                    meek = [new for new in table[1] if meek_right(table, page, wish, new)]
                    exactly(self, near(table, page, wish), tuple(meek))

    def test_a_page_with_the_wish_is_near_alone(self):
        for table in tables_about(seeded(20), 50):
            for page in table[1]:
                for wish in all_edits(table[0]):
                    if fits(page, wish):
                        exactly(self, near(table, page, wish), (page,))

    def test_wrong_things_in_their_order(self):
        for table, error, what in WRONG_TABLES:
            for page, wish in (((0, 0), ()), (None, None), ((9, 9), ((9, 9),))):
                refused(self, error, what, near, table, page, wish)
        for page, what in wrong_pages(T[0]):
            for wish in ((), None, ((0, 1), (1, 0))):
                refused(self, BadPage, what, near, T, page, wish)
        for wish, what in wrong_edits(T[0]):
            for page in ((0, 0), (1, 0)):
                refused(self, BadEdit, what, near, T, page, wish)
        for page in ((1, 0), (2, 0)):
            for wish in ((), ((0, 1),), ((0, 1), (1, 0))):
                refused(self, NotLawful, 0, near, T, page, wish)
        refused(self, CannotMeet, 0, near, T, (0, 0), ((0, 1), (1, 0)))


if __name__ == "__main__":
    unittest.main()
