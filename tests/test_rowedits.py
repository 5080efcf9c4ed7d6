"""[38]: edits laid one behind another, and those that do alike."""

import itertools
import unittest

from onlyforced.errors import BadEdits, BadSizes, NoPage
from onlyforced.rowedits import laid_all, made_edits, part_page, same
from tests.helpers import (
    C, M, NO_PAGE, WRONG_BOOKS, all_edits, all_pages, exactly, random_edit, random_sizes, refused, seeded,
    small_books, wrong_edits,
)
from tests.test_visits import visited

FIXED = ((2, 2), (("own", 0, (0,)),))

WRONG_EDITS = tuple((thing, -1) for thing in (
    None, True, 0, "", "ab", ((),) * 61, (None,) * 61, (None,) * 90000,
)) + tuple(((edit,), 0) for edit, _ in wrong_edits((2, 2, 2))) + tuple(
    (((), ((0, 1),), edit, None), 2) for edit, _ in wrong_edits((2, 2, 2))
) + (((((0, 1),),) * 59 + (((0, 2),),), 59),)


def laid_over(page, edits):
    for edit in edits:
        page = visited(page, edit)
    return page


class EditsTest(unittest.TestCase):
    def test_right_edits_come_back(self):
        for edits in ((), ((),), (((0, 1),), ((0, 0), (2, 1))), (((0, 1), (1, 1)),) * 60, ((),) * 60):
            exactly(self, made_edits((2, 2, 2), edits), edits)

    def test_wrong_edits(self):
        for edits, what in WRONG_EDITS:
            refused(self, BadEdits, what, made_edits, (2, 2, 2), edits)
            refused(self, BadEdits, what, laid_all, (2, 2, 2), edits)

    def test_wrong_sizes_go_first(self):
        for sizes, what in ((None, -1), ((), -1), ((3, 7), 1), ((True, 2), 0), ((2,) * 25, -1)):
            for edits in ((), None, (None,)):
                refused(self, BadSizes, what, made_edits, sizes, edits)
                refused(self, BadSizes, what, laid_all, sizes, edits)


class LaidTest(unittest.TestCase):
    def test_no_edit_and_one(self):
        exactly(self, laid_all((2, 2), ()), ())
        exactly(self, laid_all((2, 2), ((),)), ())
        for edit in all_edits((3, 2)):
            exactly(self, laid_all((3, 2), (edit,)), edit)
            exactly(self, laid_all((3, 2), (edit,) * 60), edit)

    def test_the_last_one_counts(self):
        exactly(self, laid_all((3, 2), (((0, 1), (1, 1)), ((0, 2),))), ((0, 2), (1, 1)))
        exactly(self, laid_all((3, 2), (((0, 2),), ((0, 1), (1, 1)))), ((0, 1), (1, 1)))

    def test_over_all_pages(self):
        source = seeded(381)
        for _ in range(300):
            sizes = random_sizes(source, 4)
            edits = tuple(random_edit(source, sizes) for _ in range(source.randint(0, 8)))
            told = laid_all(sizes, edits)
            self.assertEqual([at for at, _ in told], sorted({at for edit in edits for at, _ in edit}))
            for page in all_pages(sizes):
                exactly(self, visited(page, told), laid_over(page, edits))


class SameTest(unittest.TestCase):
    def judge(self, book, pages, one, two):
        unlike = [page for page in pages if laid_over(page, one) != laid_over(page, two)]
        self.assertIs(same(book, one, two), not unlike)
        found = part_page(book, one, two)
        if unlike:
            self.assertIn(found, unlike)
        else:
            exactly(self, found, None)
        exactly(self, part_page(book, one, two), found)
        return not unlike

    def test_the_examples(self):
        self.assertIs(same(M, (((0, 1),), ((0, 0),)), (((0, 0),),)), True)
        exactly(self, part_page(M, (((1, 0),),), ()), (0, 1, 0))
        self.assertIs(same(FIXED, (((0, 0),),), ()), True)
        self.assertIn(part_page(FIXED, (((0, 1),),), ()), ((0, 0), (0, 1)))
        self.assertIs(same(M, (), ()), True)
        exactly(self, part_page(M, (), ()), None)

    def test_all_two_edits_page_by_page(self):
        told = [0, 0]
        for book, pages in small_books(seeded(382), 120):
            if pages:
                for one, two in itertools.islice(itertools.product(all_edits(book[0]), repeat=2), 400):
                    told[self.judge(book, pages, (one,), (two,))] += 1
        self.assertGreater(min(told), 500)

    def test_several_edits_page_by_page(self):
        source = seeded(383)
        told = [0, 0]
        for book, pages in small_books(source, 400):
            if pages:
                one, two = (
                    tuple(random_edit(source, book[0]) for _ in range(source.randint(0, 4))) for _ in range(2)
                )
                told[self.judge(book, pages, one, two)] += 1
                self.judge(book, pages, one, one[::-1])
                self.judge(book, pages, one, one[1:])
                self.assertTrue(self.judge(book, pages, one, (laid_all(book[0], one),)))
        self.assertGreater(min(told), 30)

    def test_edits_that_no_page_has(self):
        self.judge(M, [(0, 0, 0), (0, 0, 1), (0, 1, 0), (1, 0, 0)], (((0, 1), (1, 1)),), (((0, 1),),))
        self.judge(C, [(0, 0), (0, 1)], (((0, 1),),), (((0, 1),),))

    def test_wrong_things_in_their_order(self):
        for edits in ((), None, (None,)):
            for book, error, what in WRONG_BOOKS:
                for call in (same, part_page):
                    refused(self, error, what, call, book, edits, edits)
            for book in NO_PAGE:
                for call in (same, part_page):
                    refused(self, NoPage, 0, call, book, edits, edits)
        for edits, what in WRONG_EDITS:
            for call in (same, part_page):
                refused(self, BadEdits, what, call, M, edits, ())
                refused(self, BadEdits, what, call, M, (), edits)
                refused(self, BadEdits, what, call, M, edits, ((), None))
        refused(self, BadEdits, 0, same, M, (None,), None)


if __name__ == "__main__":
    unittest.main()
