"""[34], [36] and [37]: parting and quarrels, what comes to rest, and the most content."""

import itertools
import unittest

from onlyforced.edits import fits
from onlyforced.errors import BadEdit, BadPage, CannotMeet, NoPage, NotLawful, Quarrel
from onlyforced.forcing import edit_for
from onlyforced.quarrels import fought, joint, most_content, parting, quarrel, quiet
from onlyforced.visits import changes
from tests.helpers import (
    C, M, NO_PAGE, WRONG_BOOKS, all_edits, exactly, refused, seeded, small_books, wrong_edits, wrong_pages,
)
from tests.test_forcing import bar_told, edit_told
from tests.test_visits import ONE, REST, TWO, WRONG_WISHES, all_ends, books_with_hands

WISHES_CALLS = (quarrel, fought, joint, most_content)


def parted_told(one, two):
    """The settings that both edits tell, with unlike worths."""
    return [at for at, worth in one if at in dict(two) and dict(two)[at] != worth]


def have_all(pages, wishes):
    """Whether some page has all the wishes."""
    return any(all(fits(page, wish) for wish in wishes) for page in pages)


class PartingTest(unittest.TestCase):
    def test_the_examples(self):
        exactly(self, edit_for(M, ONE), ((0, 1), (1, 0), (2, 0)))
        exactly(self, edit_for(M, REST), REST)
        exactly(self, parting(M, ONE, TWO), (0, 1))
        exactly(self, parting(M, ONE, REST), ())
        exactly(self, parting(M, ONE, ONE), ())

    def test_all_two_wishes_page_by_page(self):
        told = [0, 0]
        for book, pages in small_books(seeded(341), 120):
            met = [wish for wish in all_edits(book[0]) if pages and bar_told(pages, wish) is None]
            for one, two in itertools.islice(itertools.product(met, repeat=2), 400):
                found = parting(book, one, two)
                exactly(self, found, tuple(parted_told(edit_told(pages, one), edit_told(pages, two))))
                self.assertIs(found == (), have_all(pages, (one, two)))
                told[found == ()] += 1
        self.assertGreater(min(told), 1000)

    def test_fixed_settings_part_no_edits(self):
        exactly(self, parting(C, ((0, 0), (1, 0)), ((1, 1),)), (1,))
        exactly(self, parting(C, ((0, 0),), ((0, 0),)), ())

    def test_wrong_things_in_their_order(self):
        bad, unmet = (((0, 2),), 0), ((0, 1), (1, 1))
        for other in (ONE, None, unmet):
            for book, error, what in WRONG_BOOKS:
                refused(self, error, what, parting, book, other, None)
            for book in NO_PAGE:
                refused(self, NoPage, 0, parting, book, other, None)
        for wish, what in wrong_edits(M[0]):
            for other in (ONE, unmet, None):
                refused(self, BadEdit, what, parting, M, wish, other)
            for other in (ONE, unmet):
                refused(self, BadEdit, what, parting, M, other, wish)
        refused(self, BadEdit, bad[1], parting, M, bad[0], "ab")
        refused(self, CannotMeet, (0, 1), parting, M, unmet, ONE)
        refused(self, CannotMeet, (1, 2), parting, M, ONE, ((1, 1), (2, 1)))
        refused(self, CannotMeet, (0, 1), parting, M, unmet, ((1, 1), (2, 1)))
        refused(self, CannotMeet, (1, 2), parting, M, ((1, 1), (2, 1)), unmet)


class QuarrelTest(unittest.TestCase):
    def test_the_examples(self):
        exactly(self, quarrel(M, (ONE, TWO, REST)), (0, 1))
        exactly(self, fought(M, (ONE, TWO, REST)), (0, 1))
        exactly(self, joint(M, (ONE, REST)), ((0, 1), (1, 0), (2, 0)))
        refused(self, Quarrel, (0, 1), joint, M, (ONE, TWO, REST))
        exactly(self, quarrel(M, (ONE, REST)), None)
        exactly(self, fought(M, (ONE, REST)), ())

    def test_page_by_page(self):
        told = [0, 0]
        for book, pages, wishes in books_with_hands(342, 400, 6):
            edits = [edit_told(pages, wish) for wish in wishes]
            two = list(itertools.combinations(range(len(wishes)), 2))
            wrong = [(i, j) for i, j in two if not have_all(pages, (wishes[i], wishes[j]))]
            exactly(self, quarrel(book, wishes), wrong[0] if wrong else None)
            parted = {at for i, j in two for at in parted_told(edits[i], edits[j])}
            exactly(self, fought(book, wishes), tuple(sorted(parted)))
            self.assertIs(have_all(pages, wishes), not wrong)
            if wrong:
                refused(self, Quarrel, wrong[0], joint, book, wishes)
            else:
                union = tuple(sorted({pair for wish in wishes for pair in wish}))
                exactly(self, joint(book, wishes), edit_told(pages, union))
            told[bool(wrong)] += 1
        self.assertGreater(min(told), 50)

    def test_the_least_pair_of_indexes(self):
        exactly(self, quarrel(M, (REST, ONE, ((2, 1),), TWO)), (0, 2))
        exactly(self, quarrel(M, ((), ONE, REST, ONE, TWO)), (1, 4))
        refused(self, Quarrel, (1, 4), joint, M, ((), ONE, REST, ONE, TWO))

    def test_one_wish_and_twelve(self):
        exactly(self, quarrel(M, (ONE,)), None)
        exactly(self, joint(M, (ONE,) * 12), edit_for(M, ONE))
        exactly(self, joint(M, ((),)), ())
        exactly(self, quarrel(M, ((),) * 10 + (ONE, TWO)), (10, 11))


class QuietTest(unittest.TestCase):
    def test_the_examples(self):
        exactly(self, quiet(M, (0, 0, 1), (ONE, TWO)), ((2, 0),))
        exactly(self, quiet(M, (0, 0, 1), (ONE, REST)), ((0, 1), (1, 0), (2, 0)))
        exactly(self, quiet(M, (0, 0, 1), ((),)), ((0, 0), (1, 0), (2, 1)))

    def test_behind_all_visits_in_which_each_hand_came(self):
        several = 0
        for book, pages, wishes in books_with_hands(363, 200, 4):
            edits = [edit_told(pages, wish) for wish in wishes]
            parted = fought(book, wishes)
            for page in pages[::3]:
                found = quiet(book, page, wishes)
                self.assertEqual([at for at in range(len(page)) if at not in dict(found)], list(parted))
                for last in all_ends(page, edits):
                    self.assertTrue(fits(last, found))
                several += len(parted) > 0
        self.assertGreater(several, 50)

    def test_what_is_not_fought_over_changes_once_at_most(self):
        source = seeded(364)
        for book, pages, wishes in books_with_hands(365, 200, 6):
            visits = tuple(source.choices(range(len(wishes)), k=40))
            counts = changes(book, source.choice(pages), wishes, visits)
            for at, count in enumerate(counts):
                self.assertTrue(count <= 1 or at in fought(book, wishes))

    def test_twelve_wishes(self):
        exactly(self, quiet(M, (0, 0, 1), (ONE,) * 11 + (TWO,)), ((2, 0),))

    def test_wrong_things_in_their_order(self):
        for page, wishes in (((0, 0), (ONE,)), (None, None), ((9, 9), (None,))):
            for book, error, what in WRONG_BOOKS:
                refused(self, error, what, quiet, book, page, wishes)
            for book in NO_PAGE:
                refused(self, NoPage, 0, quiet, book, page, wishes)
        for page, what in wrong_pages(M[0]):
            for wishes in ((ONE, TWO), None, (((0, 1), (1, 1)),)):
                refused(self, BadPage, what, quiet, M, page, wishes)
        for wishes, error, what in WRONG_WISHES:
            refused(self, error, what, quiet, M, (1, 1, 0), wishes)
        refused(self, NotLawful, 0, quiet, M, (1, 1, 0), (ONE, TWO))


class MostContentTest(unittest.TestCase):
    def test_the_examples(self):
        exactly(self, most_content(M, (ONE, TWO)), (0,))
        exactly(self, most_content(M, (ONE, TWO, ((0, 0),))), (1, 2))
        exactly(self, most_content(M, (ONE,)), (0,))

    def test_all_parts_of_the_wishes(self):
        lengths = set()
        for book, pages, wishes in books_with_hands(371, 250, 7):
            content = [
                some for many in range(1, len(wishes) + 1)
                for some in itertools.combinations(range(len(wishes)), many)
                if have_all(pages, [wishes[at] for at in some])
            ]
            most = max(len(some) for some in content)
            wanted = min(some for some in content if len(some) == most)
            exactly(self, most_content(book, wishes), wanted)
            lengths.add((len(wishes), most))
        self.assertGreater(len(lengths), 15)

    def test_twelve_wishes(self):
        free = ((2,) * 12, ())
        wishes = tuple(((at, 1),) for at in range(12))
        exactly(self, most_content(free, wishes), tuple(range(12)))
        exactly(self, most_content(((6,), ()), tuple(((0, at % 6),) for at in range(12))), (0, 6))
        exactly(self, most_content(((6,), ()), tuple(((0, at % 5),) for at in range(12))), (0, 5, 10))
        exactly(self, most_content(M, (ONE, ((2, 1),)) + (TWO, ((0, 0),)) * 5), tuple(range(2, 12)))

    def test_the_first_of_several(self):
        exactly(self, most_content(M, (ONE, TWO, ONE, TWO)), (0, 2))
        exactly(self, most_content(M, (TWO, ONE, ONE, TWO, ())), (0, 3, 4))


class WrongTest(unittest.TestCase):
    def test_wrong_wishes(self):
        for wishes, error, what in WRONG_WISHES:
            for call in WISHES_CALLS:
                refused(self, error, what, call, M, wishes)

    def test_wrong_books_and_books_without_pages_go_first(self):
        for call, wishes in itertools.product(WISHES_CALLS, ((ONE,), None, (None,))):
            for book, error, what in WRONG_BOOKS:
                refused(self, error, what, call, book, wishes)
            for book in NO_PAGE:
                refused(self, NoPage, 0, call, book, wishes)


if __name__ == "__main__":
    unittest.main()
