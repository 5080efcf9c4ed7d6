"""[13] and [14]: safe edits, what others break, all of the safe ones and the least of a wish."""

import unittest

from onlyforced.edits import over, within
from onlyforced.errors import BadEdit, CannotMeet, TooMany
from onlyforced.judge import writable
from onlyforced.safe import breaks, least_edits, safe, safe_edits
from tests.helpers import E, Quick, T, all_edits, all_pages, exactly, random_table, refused, seeded
from tests.test_tables import PAGES_200, WRONG_TABLES
from tests.test_writable import small_tables

# The product of all sizes, each with 1 more, is 2000 here, the most that is gone through.
SIZES_2000 = (4, 4, 4, 1, 1, 1, 1)

# The least product above that is 2016.
SIZES_2016 = (6, 5, 5, 3, 1)


class SafeTest(unittest.TestCase):
    def judge(self, table):
        """Hold all four functions against each page under each edit; return the safe edits."""
        sizes, pages = table
        safe_ones = []
        for edit in all_edits(sizes):
            wrong = [page for page in pages if over(page, edit) not in pages]
            exactly(self, breaks(table, edit), wrong[0] if wrong else None)
            self.assertIs(safe(table, edit), not wrong)
            if not wrong:
                safe_ones.append(edit)
        exactly(self, safe_edits(table), tuple(safe_ones))
        for wish in all_edits(sizes):
            self.judge_wish(table, wish, safe_ones)
        return safe_ones

    def judge_wish(self, table, wish, safe_ones):
        if not any(all(page[at] == worth for at, worth in wish) for page in table[1]):
            refused(self, CannotMeet, 0, least_edits, table, wish)
            return
        with_it = [edit for edit in safe_ones if within(wish, edit)]
        least = [edit for edit in with_it if not any(within(one, edit) for one in with_it if one != edit)]
        exactly(self, least_edits(table, wish), tuple(least))

    def test_the_examples(self):
        exactly(self, safe_edits(T), (
            (), ((0, 0),), ((0, 0), (1, 0)), ((0, 0), (1, 1)), ((0, 1), (1, 1)), ((0, 2), (1, 1)), ((1, 1),),
        ))
        exactly(self, least_edits(T, ((0, 1),)), (((0, 1), (1, 1)),))
        exactly(self, breaks(T, ((0, 1),)), (0, 0))
        wholes = tuple(tuple(enumerate(page)) for page in E[1])
        exactly(self, safe_edits(E), ((),) + wholes)
        exactly(self, least_edits(E, ((0, 0),)), wholes[:2])
        self.judge(T)
        self.judge(E)

    def test_all_small_tables(self):
        for sizes in ((2,), (2, 2), (3, 2), (2, 2, 2)):
            for table in small_tables(sizes):
                self.judge(table)

    def test_random_tables(self):
        source = seeded(13)
        for _ in range(60):
            self.judge(random_table(source, 3))

    def test_one_least_edit_each_exactly_if_writable(self):
        # [0.3](a): under a table that is not writable some wish has two least edits or more.
        for sizes in ((2, 2), (3, 2), (2, 2, 2)):
            for table in small_tables(sizes):
                counts = []
                for wish in all_edits(sizes):
                    if any(within(wish, tuple(enumerate(page))) for page in table[1]):
                        counts.append(len(least_edits(table, wish)))
                self.assertIs(max(counts) == 1, writable(table), table)
                self.assertGreaterEqual(min(counts), 1)

    def test_the_empty_edit_and_whole_pages_are_safe(self):
        source = seeded(14)
        for _ in range(100):
            table = random_table(source)
            self.assertIs(safe(table, ()), True)
            for page in table[1]:
                self.assertIs(safe(table, tuple(enumerate(page))), True)

    def test_one_edit_at_a_time_has_no_limits(self):
        great = ((6, 6, 6), PAGES_200)
        self.assertIs(safe(great, ((0, 0),)), True)
        exactly(self, breaks(great, ((0, 5),)), (0, 3, 2))
        exactly(self, breaks(((6,) * 24, ((0,) * 24, (1,) * 24)), ((23, 1),)), (0,) * 24)
        with Quick(self):
            exactly(self, safe(great, ((2, 3),)), False)


class LimitsTest(unittest.TestCase):
    def test_2000_edits_are_gone_through(self):
        pages = tuple(all_pages(SIZES_2000)[:60])
        table = (SIZES_2000, pages)
        with Quick(self):
            found = safe_edits(table)
        self.assertEqual(len(all_edits(SIZES_2000)), 2000)
        wanted = [edit for edit in all_edits(SIZES_2000) if all(over(page, edit) in pages for page in pages)]
        exactly(self, found, tuple(wanted))
        with Quick(self):
            exactly(self, least_edits(table, ((0, 1),)), (((0, 1),),))
        with Quick(self):
            exactly(self, least_edits(table, ((0, 3),)), tuple(
                ((0, 3), (1, worth)) for worth in range(3)
            ))

    def test_more_edits_are_refused(self):
        for sizes, many in ((SIZES_2016, 2016), ((6,) * 24, 7 ** 24), ((1,) * 11, 2048), ((1,) * 24, 2 ** 24)):
            table = (sizes, ((0,) * len(sizes),))
            refused(self, TooMany, many, safe_edits, table)
            refused(self, TooMany, many, least_edits, table, ())
        exactly(self, len(safe_edits(((1,) * 10, ((0,) * 10,)))), 1024)

    def test_60_pages_are_gone_through_and_61_refused(self):
        for many in (60, 61, 100, 200):
            table = ((6, 6, 6), PAGES_200[:many])
            if many == 60:
                exactly(self, least_edits(table, ((0, 0),)), (((0, 0),),))
                self.assertIn(((0, 0),), safe_edits(table))
            else:
                refused(self, TooMany, many, safe_edits, table)
                refused(self, TooMany, many, least_edits, table, ((0, 0),))

    def test_the_edits_go_ahead_of_the_pages(self):
        pages = tuple(all_pages(SIZES_2016)[:61])
        refused(self, TooMany, 2016, safe_edits, (SIZES_2016, pages))
        refused(self, TooMany, 2016, least_edits, (SIZES_2016, pages), ((0, 5),))

    def test_both_go_ahead_of_wishes_that_cannot_be_met(self):
        refused(self, TooMany, 2016, least_edits, (SIZES_2016, ((0, 0, 0, 0, 0),)), ((0, 1),))
        refused(self, TooMany, 61, least_edits, ((6, 6, 6), PAGES_200[:61]), ((0, 5),))
        refused(self, CannotMeet, 0, least_edits, ((6, 6, 6), PAGES_200[:60]), ((0, 5),))

    def test_many_least_edits_are_told_quickly(self):
        for many, sizes in ((5, (2,) * 6), (7, (3, 3, 3, 3, 2)), (3, (1, 5, 1, 5, 1, 5))):
            pages = [page for page in all_pages(sizes) if sum(page) % many != 1]
            table = (sizes, tuple(seeded(many).sample(pages, min(60, len(pages)))))
            table = (sizes, tuple(sorted(table[1])))
            with Quick(self):
                safe_edits(table)
            for page in table[1][::9]:
                for wish in (tuple(enumerate(page))[:1], tuple(enumerate(page))[-2:]):
                    with Quick(self):
                        least_edits(table, wish)


class WrongTest(unittest.TestCase):
    def test_wrong_edits(self):
        cases = (
            (None, -1), ("ab", -1), (1, -1), ((None,), 0), ((0, 1), 0), (((2, 0),), 0), (((0, 3),), 0),
            (((0, True),), 0), (((0, 1), (0, 1)), 1), (((1, 0), (0, 1)), 1), (((0, 1), (1, 0), ()), 2),
        )
        for edit, what in cases:
            for call in (safe, breaks, least_edits):
                refused(self, BadEdit, what, call, T, edit)
        for sizes in (SIZES_2016, (6,) * 24):
            table = (sizes, ((0,) * len(sizes),))
            refused(self, BadEdit, 0, least_edits, table, ((24, 0),))
        refused(self, BadEdit, -1, least_edits, ((6, 6, 6), PAGES_200), None)

    def test_wrong_tables_go_ahead_of_the_edit(self):
        for table, error, what in WRONG_TABLES:
            refused(self, error, what, safe_edits, table)
            for edit in ((), None, ((9, 9),)):
                for call in (safe, breaks, least_edits):
                    refused(self, error, what, call, table, edit)


if __name__ == "__main__":
    unittest.main()
