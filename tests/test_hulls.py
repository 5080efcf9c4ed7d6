"""[31] and [32]: the hull of a table, and how moves make it."""

import itertools
import unittest

from onlyforced.closing import follows, tight
from onlyforced.errors import BadPage, TooMany
from onlyforced.hulls import hull, hull_table, made_by
from onlyforced.judge import book_of, writable
from onlyforced.pages import move
from tests.helpers import (
    E, Quick, T, all_pages, exactly, lawful_pages, random_table, refused, seeded, small_books, tables_about,
    tight_told, wrong_pages,
)
from tests.test_tables import PAGES_200, WRONG_TABLES
from tests.test_writable import small_tables

# The table of DOC.md [31] whose hull has twelve pages, and the one whose pairs become either ones.
TWELVE = ((3, 4), ((0, 0), (0, 1), (1, 2), (2, 3)))
EITHER = ((3, 3), ((0, 1), (0, 2), (1, 0), (2, 0)))


def closed_by_moves(pages):
    """The smallest set of pages with these and the moves of each three of its own."""
    there = set(pages)
    while True:
        agreed = {
            tuple((at, a) for at, (a, b) in enumerate(zip(x, y)) if a == b)
            for x, y in itertools.combinations_with_replacement(there, 2)
        }
        more = {
            tuple(dict(edit).get(at, worth) for at, worth in enumerate(z)) for edit in agreed for z in there
        }
        if more <= there:
            return sorted(there)
        there |= more


def made_rightly(case, table, rows, page):
    """Expect rows to make the page, as [32] tells it."""
    case.assertIs(type(rows), tuple)
    there = set(table[1])
    for row in rows:
        case.assertEqual((type(row), len(row)), (tuple, 3))
        case.assertTrue(all(one in there for one in row))
        there.add(move(*row))
    case.assertIn(page, there)
    if rows:
        case.assertEqual(move(*rows[-1]), page)
    case.assertIs(rows == (), page in table[1])


class HullTest(unittest.TestCase):
    def judge(self, table):
        """Hold all three functions against the closing by moves; return its pages."""
        sizes, pages = table
        wanted = closed_by_moves(pages)
        exactly(self, hull(table), tight_told(sizes, wanted))
        if len(wanted) > 200:
            refused(self, TooMany, 201, hull_table, table)
            for page in (pages[0], wanted[-1], (0,) * len(sizes)):
                refused(self, TooMany, 201, made_by, table, page)
            return wanted
        exactly(self, hull_table(table), (sizes, tuple(wanted)))
        for page in all_pages(sizes)[:300]:
            found = made_by(table, page)
            if page in wanted:
                made_rightly(self, table, found, page)
            else:
                exactly(self, found, None)
            exactly(self, made_by(table, page), found)
        return wanted

    def test_the_examples(self):
        owns = tuple(("own", at, (0, 1)) for at in range(3))
        exactly(self, hull(E), ((2, 2, 2), owns))
        exactly(self, hull_table(E), ((2, 2, 2), tuple(all_pages((2, 2, 2)))))
        exactly(self, hull_table((E[0], E[1][:3]))[1], ((0, 0, 0), (0, 0, 1), (0, 1, 1), (1, 0, 1)))
        exactly(self, hull_table(TWELVE), ((3, 4), tuple(all_pages((3, 4)))))
        either = tuple(page for page in all_pages((3, 3)) if 0 in page)
        exactly(self, hull_table(EITHER), ((3, 3), either))
        self.assertIn(("either", 0, 0, 1, 0), hull(EITHER)[1])
        made_rightly(self, E, made_by(E, (0, 0, 1)), (0, 0, 1))
        made_rightly(self, E, (((0, 0, 0), (0, 1, 1), (1, 0, 1)),), (0, 0, 1))
        for table in (T, E, TWELVE, EITHER):
            self.judge(table)

    def test_all_small_tables(self):
        for sizes in ((1,), (4,), (2, 2), (3, 2), (2, 1, 2), (2, 2, 2)):
            for table in small_tables(sizes):
                self.judge(table)

    def test_all_tables_of_three_worths_twice(self):
        for table in small_tables((3, 3)):
            wanted = closed_by_moves(table[1])
            exactly(self, hull_table(table), ((3, 3), tuple(wanted)))
            exactly(self, hull(table), tight_told(*hull_table(table)))

    def test_random_tables(self):
        source = seeded(31)
        for _ in range(200):
            self.judge(random_table(source, 4, 6))
        for table in tables_about(source, 100):
            self.judge(table)

    def test_few_pages_of_many_settings(self):
        source = seeded(32)
        small = 0
        for _ in range(60):
            sizes = tuple(source.randint(2, 4) for _ in range(source.randint(5, 7)))
            pages = {tuple(source.randrange(min(2, many)) for many in sizes) for _ in range(source.randint(3, 4))}
            wanted = self.judge((sizes, tuple(sorted(pages))))
            small += len(pages) < len(wanted) <= 200
        self.assertGreater(small, 20)

    def test_pages_of_books_with_some_left_out(self):
        source = seeded(33)
        for book, pages in small_books(source, 150):
            if 2 <= len(pages) <= 60:
                left = source.sample(pages, source.randint(1, len(pages)))
                wanted = self.judge((book[0], tuple(sorted(left))))
                self.assertTrue(set(left) <= set(wanted) <= set(pages))

    def test_a_writable_table_is_its_own_hull_and_no_other_is(self):
        source = seeded(34)
        told = [0, 0]
        for table in tables_about(source, 150):
            self.assertIs(hull_table(table) == table, writable(table))
            if writable(table):
                exactly(self, hull(table), book_of(table))
            told[writable(table)] += 1
        self.assertGreater(min(told), 20)

    def test_the_hull_of_the_hull_is_the_hull(self):
        for table in tables_about(seeded(35), 60):
            exactly(self, hull(hull_table(table)), hull(table))
            exactly(self, tight(hull(table)), hull(table))
            self.assertEqual(lawful_pages(hull(table)), list(hull_table(table)[1]))
            self.assertIs(follows(hull(table), ("own", 0, tuple(range(table[0][0])))), True)


class LimitsTest(unittest.TestCase):
    def test_200_pages_in_the_hull_and_201(self):
        # 200 pages are all there are of these sizes, and 201 are a page more by the last worth.
        sizes = (5, 5, 4, 2)
        pages = tuple(sorted(
            {(a, b, 0, 0) for a in range(5) for b in range(5)} | {(0, 0, c, 0) for c in range(4)}
            | {(0, 0, 0, 1), (1, 1, 1, 1), (2, 1, 1, 0), (1, 2, 1, 0), (1, 1, 2, 0), (2, 2, 2, 1), (3, 3, 3, 0)}
        ))
        table = (sizes, pages)
        self.assertEqual(closed_by_moves(pages), all_pages(sizes))
        exactly(self, hull_table(table), (sizes, tuple(all_pages(sizes))))
        for page in all_pages(sizes)[::17]:
            made_rightly(self, table, made_by(table, page), page)

    def test_201_pages_are_refused(self):
        # Beside the 200 pages of the sizes of four settings one page has the worth 1 at a fifth.
        sizes = (5, 5, 4, 2, 2)
        fan = [page + (0,) for page in all_pages(sizes[:4])]
        one = ((4, 4, 3, 1, 1),)
        self.assertEqual(len(fan), 200)
        pages = tuple(sorted(tuple(page for page in fan if page[0] == 4 or page[1:4] != (1, 1, 1)) + one))[-200:]
        wanted = closed_by_moves(pages)
        self.assertEqual(len(wanted), 201)
        refused(self, TooMany, 201, hull_table, (sizes, pages))
        for page in (pages[0], wanted[0], (0, 0, 0, 0, 1)):
            refused(self, TooMany, 201, made_by, (sizes, pages), page)
        exactly(self, hull((sizes, pages)), tight_told(sizes, wanted))

    def test_great_hulls_are_told_as_books_quickly(self):
        source = seeded(36)
        for sizes in ((6,) * 24, (2,) * 24, (6, 3) * 12):
            pages = set()
            while len(pages) < 200:
                pages.add(tuple(source.randrange(many) for many in sizes))
            table = (sizes, tuple(sorted(pages)))
            with Quick(self):
                book = hull(table)
            exactly(self, book, (sizes, tuple(("own", at, tuple(range(many))) for at, many in enumerate(sizes))))
            with Quick(self):
                refused(self, TooMany, 201, hull_table, table)
            with Quick(self):
                refused(self, TooMany, 201, made_by, table, table[1][0])


class WrongTest(unittest.TestCase):
    def test_wrong_tables_go_first(self):
        for table, error, what in WRONG_TABLES:
            refused(self, error, what, hull, table)
            refused(self, error, what, hull_table, table)
            for page in ((0, 0), None, (9, 9)):
                refused(self, error, what, made_by, table, page)

    def test_wrong_pages_go_ahead_of_the_limit(self):
        great = ((6, 6, 6), PAGES_200)
        self.assertEqual(len(hull(great)[1]), 3)
        for table in (T, E, great):
            for page, what in wrong_pages(table[0]):
                refused(self, BadPage, what, made_by, table, page)
        refused(self, TooMany, 201, made_by, great, (5, 5, 5))
        refused(self, TooMany, 201, made_by, great, (0, 0, 0))


if __name__ == "__main__":
    unittest.main()
