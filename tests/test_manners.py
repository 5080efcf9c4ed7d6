"""[48]: which manners keep a law in every run, and runs in which others do not."""

import unittest

from onlyforced.closing import tight
from onlyforced.errors import BadManner, NoPage
from onlyforced.manners import bad_run, kept_by
from onlyforced.worlds import World, run_script
from tests.helpers import (
    C, H, M, N, NO_PAGE, Quick, WRONG_BOOKS, books_of_two_sayings, exactly, planted_book, refused, seeded, small_books,
    tight_told,
)
from tests.test_houses import DOOR
from tests.test_worlds import MANNERS, WRONG_MANNERS, Beside

TIES = ((3, 3, 2), (("tied", 0, 1, ((0, 2), (1, 0))),))


def only_own(sizes, pages):
    """Whether the tight book of just these pages has only own sayings."""
    return all(saying[0] == "own" for saying in tight_told(sizes, pages)[1])


class MannersTest(unittest.TestCase):
    def hold(self, book, pages):
        """Hold both functions against the pages of the book, for all manners."""
        settings = tuple(range(len(book[0])))
        for manner in MANNERS:
            wanted = manner == "whole" or only_own(book[0], pages)
            self.assertIs(kept_by(book, manner), wanted)
            found = bad_run(book, manner)
            exactly(self, bad_run(book, manner), found)
            if wanted:
                exactly(self, found, None)
                continue
            self.assertEqual((type(found), len(found)), (tuple, 2))
            page, script = found
            self.assertIn(page, pages)
            shown = run_script(book, page, (settings, settings), manner, script)
            self.assertNotIn(tuple(worth for _, worth in shown[1]), pages)
            world = World(book, page, (settings, settings), manner)
            for word, *given in script:
                getattr(world, word)(*given)
            self.assertIs(world.holds(1), False)

    def test_small_books(self):
        for book, pages in small_books(seeded(481), 400):
            if pages:
                self.hold(book, pages)

    def test_books_of_two_sayings(self):
        for book, pages in books_of_two_sayings():
            if pages:
                self.hold(book, pages)

    def test_the_books_of_the_document(self):
        for book in (M, H, DOOR, TIES):
            for manner in ("sparing", "torn"):
                self.assertIs(kept_by(book, manner), False)
        # Its sayings tell of two settings, but those of its tight book do not.
        for manner in MANNERS:
            self.assertIs(kept_by(C, manner), True)
            exactly(self, bad_run(C, manner), None)

    def test_runs_of_books_that_are_kept(self):
        source = seeded(482)
        runs = 0
        for book, pages in small_books(source, 200):
            if pages and only_own(book[0], pages):
                runs += 1
                for manner in MANNERS:
                    lots = (tuple(range(len(book[0]))),) * 3
                    beside = Beside(self, source, book, pages, lots, manner)
                    for _ in range(15):
                        beside.step()
                        beside.look()
                    self.assertEqual(beside.not_held, 0)
        self.assertGreater(runs, 20)

    def test_great_books(self):
        source = seeded(483)
        for sizes in ((2,) * 24, (6,) * 24, (6, 2, 3) * 8):
            for many in (0, 1, 20, 400):
                book, _ = planted_book(source, sizes, many)
                wanted = all(saying[0] == "own" for saying in tight(book)[1])
                for manner in ("sparing", "torn"):
                    with Quick(self):
                        self.assertIs(kept_by(book, manner), wanted)
                        found = bad_run(book, manner)
                    self.assertIs(found is None, wanted)
                    if found is not None:
                        world = World(book, found[0], (tuple(range(24)),) * 2, manner)
                        for word, *given in found[1]:
                            getattr(world, word)(*given)
                        self.assertIs(world.holds(1), False)

    def test_wrong_books_books_without_pages_and_manners(self):
        for call in (kept_by, bad_run):
            for manner in ("whole", None, "torn"):
                for book, error, what in WRONG_BOOKS:
                    refused(self, error, what, call, book, manner)
                for book in NO_PAGE + (N,):
                    refused(self, NoPage, 0, call, book, manner)
            for manner in WRONG_MANNERS:
                refused(self, BadManner, manner, call, M, manner)
                refused(self, BadManner, manner, call, C, manner)


if __name__ == "__main__":
    unittest.main()
