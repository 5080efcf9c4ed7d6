"""[19] to [30]: each answer about a great book is told in well under a thousandth of a second."""

import time
import unittest

from onlyforced.books import broken, keeps
from onlyforced.closing import against, alike, follows, tight
from onlyforced.fills import least_page, pages_of
from onlyforced.forcing import (
    bar, breaks_in, can_meet, edit_for, fixed, forced, reason, safe_in,
)
from onlyforced.papers import none_paper, out_paper
from tests.helpers import planted_book, random_edit, random_page, random_saying, seeded


def calls_about(source, book, page):
    """Questions about a book that some page keeps, of each function one."""
    sizes, sayings = book
    wish = tuple((at, worth) for at, worth in enumerate(page) if source.random() < 0.3)
    saying = random_saying(source, sizes)
    one, two = (0, page[0]), (len(sizes) - 1, page[-1])
    return (
        (keeps, page), (broken, random_page(source, sizes)), (tight,), (alike, (sizes, sayings[::-1])),
        (follows, saying), (against, saying), (least_page, ()), (least_page, wish), (pages_of, 5),
        (can_meet, wish), (can_meet, random_edit(source, sizes)), (bar, wish), (bar, random_edit(source, sizes)),
        (fixed,), (forced, wish), (edit_for, wish), (reason, wish, len(sizes) - 1), (safe_in, wish),
        (breaks_in, wish), (out_paper, one, two),
    )


def seconds_each(calls):
    """The seconds that a call takes, in the best of several rounds: other work may hold one up."""
    rounds = []
    for _ in range(4):
        begun = time.perf_counter()
        for function, *args in calls:
            function(*args)
        rounds.append((time.perf_counter() - begun) / len(calls))
    return min(rounds)


# The seconds that a call may take, of settings of up to four worths and of six: some four times what
# was measured, as machines are not all as fast.
SOON, SOON_OF_SIX = 0.0007, 0.0012

# Those that look at each two settings, or at two books, may take thrice as long.
THRICE = (tight, alike)


class FastTest(unittest.TestCase):
    def all_soon(self, books, seconds):
        """Each function has to answer within the seconds, on the average of the books."""
        source = seeded(191)
        asked = {}
        for book, page in books:
            for function, *args in calls_about(source, book, page):
                asked.setdefault(function, []).append((function, book, *args))
        for function, calls in asked.items():
            most = 3 * seconds if function in THRICE else seconds
            self.assertLess(seconds_each(calls), most, function.__name__)

    def test_up_to_four_worths(self):
        source = seeded(190)
        for many, sayings in ((12, 20), (24, 0), (24, 20), (24, 50)):
            books = []
            for _ in range(20):
                sizes = tuple(source.randint(2, 4) for _ in range(many))
                books.append(planted_book(source, sizes, sayings))
            self.all_soon(books, SOON)

    def test_six_worths(self):
        source = seeded(189)
        for sayings in (0, 20, 50):
            self.all_soon([planted_book(source, (6,) * 24, sayings) for _ in range(20)], SOON_OF_SIX)

    def test_chains(self):
        for sizes, seconds in (((2,) * 24, SOON), ((4,) * 24, SOON), ((6,) * 24, SOON_OF_SIX)):
            chain = tuple(("either", at, 0, at + 1, 1) for at in range(23))
            self.all_soon([((sizes, chain), (0,) * 24)], seconds)
            book = (sizes, chain + (("own", 0, (1,)), ("own", 23, (0,))))
            self.assertLess(seconds_each([(none_paper, book), (tight, book)] * 5), seconds)


if __name__ == "__main__":
    unittest.main()
