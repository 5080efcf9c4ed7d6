"""[33], [35] and [36]: wishes that stand, visits, and what comes to rest."""

import itertools
import unittest

from onlyforced.errors import BadPage, BadVisits, BadWishes, NoPage, NotLawful, TooMany, Unmet
from onlyforced.visits import after, changes, ends, made_wishes
from tests.helpers import (
    C, M, NO_PAGE, Quick, WRONG_BOOKS, all_edits, exactly, nested, refused, seeded, small_books, wrong_edits,
    wrong_pages,
)
from tests.test_forcing import bar_told, edit_told

ONE, TWO, REST = ((0, 1),), ((1, 1),), ((2, 0),)

# What is no wishes of the book M, with the error and its what, in the order in which they are asked.
WRONG_WISHES = tuple((thing, BadWishes, -1) for thing in (
    None, True, 0, "", "ab", (), (REST,) * 13, (None,) * 13, (None,) * 90000,
)) + tuple(((edit,), BadWishes, 0) for edit, _ in wrong_edits(M[0])) + tuple(
    ((ONE, TWO, edit, None), BadWishes, 2) for edit, _ in wrong_edits(M[0])
) + (
    ((REST,) * 11 + (0,), BadWishes, 11), ((((0, 1), (1, 1)), None), BadWishes, 1), ((((0, 1), (1, 1)),), Unmet, 0),
    ((ONE, TWO, ((0, 1), (1, 1)), ((1, 1), (2, 1))), Unmet, 2), ((ONE,) * 11 + (((0, 1), (2, 1)),), Unmet, 11),
)

# What is no visits to two hands.
WRONG_VISITS = tuple((thing, -1) for thing in (None, True, 0, "", "ab", (0,) * 201, (None,) * 90000)) + tuple(
    (ahead + (part,), len(ahead)) for ahead in ((), (0, 1)) for part in (
        2, -1, True, False, None, "0", (), (0,), 10 ** 50, -(10 ** 50), nested(49, 0),
    )
) + (((0, 1, 2, None), 2), ((1,) * 199 + (2,), 199))


def hands_of(source, book, pages, most):
    """Wishes for hands, each of which can be met."""
    met = [wish for wish in all_edits(book[0]) if bar_told(pages, wish) is None]
    return tuple(source.choice(met) for _ in range(source.randint(1, most)))


def books_with_hands(number, books, most):
    """Books with all their pages, and wishes that stand."""
    source = seeded(number)
    for book, pages in small_books(source, books):
        if pages:
            yield book, pages, hands_of(source, book, pages, most)


def visited(page, edit):
    worths = dict(edit)
    return tuple(worths.get(at, worth) for at, worth in enumerate(page))


def all_ends(page, edits):
    """All pages behind visits in which each hand came: every visit is tried, until nothing is new."""
    seen, todo = set(), [(page, frozenset())]
    while todo:
        here = todo.pop()
        if here not in seen:
            seen.add(here)
            todo += [(visited(here[0], edit), here[1] | {hand}) for hand, edit in enumerate(edits)]
    return sorted({there for there, came in seen if len(came) == len(edits)})


class WishesTest(unittest.TestCase):
    def test_right_wishes_come_back(self):
        for wishes in ((ONE,), (ONE, TWO, REST), ((),) * 12, (ONE, ONE), (((0, 0), (1, 0), (2, 1)),)):
            exactly(self, made_wishes(M, wishes), wishes)

    def test_all_wishes_page_by_page(self):
        for book, pages in small_books(seeded(331), 150):
            if not pages:
                continue
            for wish in all_edits(book[0]):
                if bar_told(pages, wish) is None:
                    exactly(self, made_wishes(book, ((), wish)), ((), wish))
                else:
                    refused(self, Unmet, 1, made_wishes, book, ((), wish))

    def test_wrong_wishes(self):
        for wishes, error, what in WRONG_WISHES:
            refused(self, error, what, made_wishes, M, wishes)
        refused(self, Unmet, 1, made_wishes, C, (((0, 0),), ((0, 1),)))

    def test_wrong_books_and_books_without_pages_go_first(self):
        for wishes in ((ONE,), None, (None,), ()):
            for book, error, what in WRONG_BOOKS:
                refused(self, error, what, made_wishes, book, wishes)
            for book in NO_PAGE:
                refused(self, NoPage, 0, made_wishes, book, wishes)


class VisitsTest(unittest.TestCase):
    def test_the_example(self):
        exactly(self, after(M, (0, 0, 1), (ONE, TWO), (0, 1, 0)), (1, 0, 0))
        exactly(self, changes(M, (0, 0, 1), (ONE, TWO), (0, 1, 0)), (3, 2, 1))
        exactly(self, after(M, (0, 0, 1), (ONE, TWO), ()), (0, 0, 1))
        exactly(self, changes(M, (0, 0, 1), (ONE, TWO), ()), (0, 0, 0))

    def hold(self, book, pages, page, wishes, visits):
        counts = [0] * len(page)
        there = page
        for visit in visits:
            new = visited(there, edit_told(pages, wishes[visit]))
            counts = [count + (a != b) for count, a, b in zip(counts, there, new)]
            there = new
            self.assertIn(there, pages)
        exactly(self, after(book, page, wishes, visits), there)
        exactly(self, changes(book, page, wishes, visits), tuple(counts))

    def test_all_visits_of_few_hands(self):
        source = seeded(351)
        for book, pages, wishes in books_with_hands(352, 60, 3):
            page = source.choice(pages)
            for many in range(4):
                for visits in itertools.product(range(len(wishes)), repeat=many):
                    self.hold(book, pages, page, wishes, visits)

    def test_many_visits(self):
        source = seeded(353)
        for book, pages, wishes in books_with_hands(354, 200, 12):
            for page in source.sample(pages, min(3, len(pages))):
                visits = tuple(source.choices(range(len(wishes)), k=source.randint(0, 40)))
                self.hold(book, pages, page, wishes, visits)

    def test_200_visits(self):
        exactly(self, changes(M, (0, 0, 1), (ONE, TWO), (0, 1) * 100), (200, 199, 1))
        exactly(self, after(M, (0, 0, 1), (ONE, TWO), (0, 1) * 100), (0, 1, 0))
        exactly(self, changes(M, (0, 0, 1), (ONE, ()), (1,) * 200), (0, 0, 0))


class EndsTest(unittest.TestCase):
    def test_the_examples(self):
        exactly(self, ends(M, (0, 0, 1), (ONE, TWO)), ((0, 1, 0), (1, 0, 0)))
        exactly(self, ends(M, (0, 0, 1), (ONE, REST)), ((1, 0, 0),))
        exactly(self, ends(M, (0, 0, 1), ((),)), ((0, 0, 1),))

    def test_all_visits_of_few_hands(self):
        several = 0
        for book, pages, wishes in books_with_hands(361, 200, 4):
            edits = [edit_told(pages, wish) for wish in wishes]
            for page in pages[::3]:
                found = ends(book, page, wishes)
                exactly(self, found, tuple(all_ends(page, edits)))
                several += len(found) > 1
        self.assertGreater(several, 50)

    def test_six_hands_and_seven(self):
        sizes = (6, 6)
        wishes = tuple(((0, worth),) for worth in range(6))
        with Quick(self):
            exactly(self, ends((sizes, ()), (0, 3), wishes), tuple((worth, 3) for worth in range(6)))
        for many in (7, 8, 12):
            refused(self, TooMany, many, ends, (sizes, ()), (0, 3), (wishes * 2)[:many])
            refused(self, TooMany, many, ends, M, (0, 0, 0), (REST,) * many)
        for book, pages, wishes in books_with_hands(362, 40, 1):
            edits = [edit_told(pages, wish) for wish in (wishes * 6)]
            exactly(self, ends(book, pages[0], wishes * 6), tuple(all_ends(pages[0], edits)))


class WrongTest(unittest.TestCase):
    def calls(self, error, what, book, page, wishes, visits=(0,)):
        """Expect all three to refuse."""
        refused(self, error, what, after, book, page, wishes, visits)
        refused(self, error, what, changes, book, page, wishes, visits)
        refused(self, error, what, ends, book, page, wishes)

    def test_wrong_books_and_books_without_pages_go_first(self):
        for page, wishes, visits in (((0, 0), (ONE,), (0,)), (None, None, None), ((9, 9), (None,), (9,))):
            for book, error, what in WRONG_BOOKS:
                self.calls(error, what, book, page, wishes, visits)
            for book in NO_PAGE:
                self.calls(NoPage, 0, book, page, wishes, visits)

    def test_then_the_page_then_the_wishes(self):
        for page, what in wrong_pages(M[0]):
            for wishes, visits in (((ONE, TWO), (0,)), (None, None), (((0, 1), (1, 1)), (9,))):
                self.calls(BadPage, what, M, page, wishes, visits)
        for wishes, error, what in WRONG_WISHES:
            self.calls(error, what, M, (1, 1, 0), wishes, None)
            self.calls(error, what, M, (0, 0, 0), wishes)

    def test_then_the_law_then_the_visits_or_how_many_wishes(self):
        for page in ((1, 1, 0), (1, 1, 1)):
            self.calls(NotLawful, 0, M, page, (ONE, TWO), None)
            self.calls(NotLawful, 0, M, page, (REST,) * 7)
        for visits, what in WRONG_VISITS:
            for call in (after, changes):
                refused(self, BadVisits, what, call, M, (0, 0, 0), (ONE, TWO), visits)


if __name__ == "__main__":
    unittest.main()
