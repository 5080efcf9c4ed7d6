"""[10] to [12]: writable tables, three pages whose move is not lawful, and the book of a table."""

import itertools
import unittest

from onlyforced.errors import BadSizes, BadTable, NotWritable
from onlyforced.judge import book_of, three, why, writable
from onlyforced.pages import move
from tests.helpers import (
    E, T, all_pages, exactly, lawful_pages, random_sizes, random_table, refused, seeded, small_books,
    tight_told,
)
from tests.test_tables import WRONG_TABLES


def writable_told(pages):
    """Whether the moves of all threes of the pages, in each order, are among them."""
    there = set(pages)
    return all(move(x, y, z) in there for x, y, z in itertools.product(pages, repeat=3))


def small_tables(sizes):
    """All tables over sizes."""
    pages = all_pages(sizes)
    for many in range(1, len(pages) + 1):
        for some in itertools.combinations(pages, many):
            yield (sizes, some)


class WritableTest(unittest.TestCase):
    def judge(self, table):
        """Hold all four functions against the moves of all threes."""
        sizes, pages = table
        wanted = writable_told(pages)
        self.assertIs(writable(table), wanted, table)
        told = three(table)
        if wanted:
            book = tight_told(sizes, pages)
            self.assertEqual(lawful_pages(book), list(pages))
            exactly(self, told, None)
            exactly(self, book_of(table), book)
            exactly(self, why(table), ("book", book))
        else:
            self.assertEqual((type(told), len(told)), (tuple, 3))
            for page in told:
                self.assertIn(page, pages)
            self.assertNotIn(move(*told), pages)
            refused(self, NotWritable, 0, book_of, table)
            exactly(self, why(table), ("three",) + told)
        exactly(self, three(table), told)
        return wanted

    def test_the_examples(self):
        book = ((3, 2), (("own", 0, (0, 1, 2)), ("own", 1, (0, 1)), ("either", 0, 0, 1, 1)))
        self.assertIs(writable(T), True)
        exactly(self, three(T), None)
        exactly(self, book_of(T), book)
        exactly(self, why(T), ("book", book))
        self.assertIs(writable(E), False)
        refused(self, NotWritable, 0, book_of, E)
        self.assertIs(self.judge(T), True)
        self.assertIs(self.judge(E), False)

    def test_all_small_tables(self):
        for sizes in ((1,), (4,), (2, 2), (3, 2), (2, 1, 2), (2, 2, 2)):
            told = {self.judge(table) for table in small_tables(sizes)}
            if sizes in ((3, 2), (2, 2, 2)):
                self.assertEqual(told, {True, False})
            if sizes in ((1,), (4,), (2, 2)):
                self.assertEqual(told, {True})

    def test_random_tables(self):
        source = seeded(10)
        told = [self.judge(random_table(source)) for _ in range(300)]
        self.assertTrue(30 < sum(told) < 270, sum(told))

    def test_tables_of_books_with_a_page_more_or_less(self):
        source = seeded(11)
        told = [0, 0]
        for book, pages in small_books(source, 250):
            if not 1 <= len(pages) <= 16:
                continue
            sizes = book[0]
            self.assertIs(self.judge((sizes, tuple(pages))), True)
            for page in source.sample(all_pages(sizes), min(4, len(all_pages(sizes)))):
                other = tuple(sorted(set(pages) ^ {page}))
                if other:
                    told[self.judge((sizes, other))] += 1
        self.assertGreater(min(told), 30)

    def test_tables_whose_pairs_all_have_a_sort(self):
        # What is wrong with these shows at three settings or more at once, never at two.
        for many, rest in ((3, 0), (3, 1), (4, 0), (4, 1), (5, 0)):
            pages = tuple(page for page in all_pages((2,) * many) if sum(page) % 2 == rest)
            self.assertIs(self.judge(((2,) * many, pages)), False)
        for left_out in all_pages((2, 2, 2)):
            pages = tuple(page for page in all_pages((2, 2, 2)) if page != left_out)
            self.assertIs(self.judge(((2, 2, 2), pages)), False)
        pages = tuple(page for page in all_pages((3, 3, 3)) if sum(page) % 3 == 0)
        self.assertIs(self.judge(((3, 3, 3), pages)), False)

    def test_two_settings_are_enough_to_fail(self):
        for table in (
            ((3, 2, 2), ((0, 0, 0), (0, 1, 0), (1, 0, 0), (2, 1, 1))),
            ((3, 3), ((0, 1), (0, 2), (1, 0), (2, 0))),
            ((2, 3, 3), ((0, 0, 0), (0, 0, 1), (0, 1, 1), (0, 2, 2))),
        ):
            self.assertIs(self.judge(table), False)

    def test_one_page_and_all_pages(self):
        source = seeded(12)
        for _ in range(20):
            sizes = random_sizes(source, 3)
            self.assertIs(self.judge((sizes, tuple(all_pages(sizes))[:1])), True)
            self.assertIs(writable((sizes, tuple(all_pages(sizes)))), True)
        last = ((6,) * 24, ((5,) * 24,))
        owns = tuple(("own", at, (5,)) for at in range(24))
        exactly(self, book_of(last), ((6,) * 24, owns))

    def test_wrong_tables(self):
        for table, error, what in WRONG_TABLES:
            for call in (writable, three, book_of, why):
                refused(self, error, what, call, table)
        refused(self, BadSizes, -1, writable, ((), E[1]))
        refused(self, BadTable, 1, book_of, (E[0], E[1][::-1]))


if __name__ == "__main__":
    unittest.main()
