"""[29] and [30]: papers, each step of which is gone through as [29] tells it."""

import itertools
import unittest

from onlyforced.errors import BadWorth, HasPage
from onlyforced.papers import none_paper, out_paper
from tests.helpers import (
    C, H, M, N, NO_PAGE, Quick, WRONG_BOOKS, WRONG_CELLS, books_of_two_sayings, exactly, lawful_pages, random_book,
    random_saying, random_sizes, refused, seeded, small_books,
)


def cells_of(sizes):
    """All pairs of a setting and a worth of it."""
    return [(at, worth) for at, many in enumerate(sizes) for worth in range(many)]


def out_first(book):
    """The two pairs that are out at the beginning."""
    sizes, sayings = book
    out = {((i, a), (i, b)) for i, many in enumerate(sizes) for a, b in itertools.permutations(range(many), 2)}
    for saying in sayings:
        match saying:
            case ("own", i, worths):
                out |= {((i, a), (i, a)) for a in range(sizes[i]) if a not in worths}
            case ("tied", i, j, pairs):
                both = [((i, a), (j, b)) for a in range(sizes[i]) for b in range(sizes[j]) if (a, b) not in pairs]
                out |= set(both) | {(two, one) for one, two in both}
            case ("either", i, c, j, d):
                both = [((i, a), (j, b)) for a in range(sizes[i]) for b in range(sizes[j]) if a != c and b != d]
                out |= set(both) | {(two, one) for one, two in both}
    return out


def steps_done(case, book, steps):
    """The two pairs that are out behind the steps, each of which has to be right."""
    sizes, _ = book
    out = out_first(book)
    case.assertIs(type(steps), tuple)
    for step in steps:
        case.assertEqual((type(step), len(step)), (tuple, 5))
        case.assertTrue(all(type(part) is int for part in step))
        i, a, j, b, k = step
        for setting, worth in ((i, a), (j, b), (k, 0)):
            case.assertTrue(0 <= setting < len(sizes) and 0 <= worth < sizes[setting])
        for c in range(sizes[k]):
            case.assertTrue(((i, a), (k, c)) in out or ((k, c), (j, b)) in out, (book, steps, step))
        out |= {((i, a), (j, b)), ((j, b), (i, a))}
    return out


def right_out(case, book, steps, one, two):
    """Expect a paper to be right, and not to tell of more than it has to."""
    case.assertIn((one, two), steps_done(case, book, steps))
    case.assertEqual(len(set(steps)), len(steps))


def right_none(case, book, steps):
    """Expect a paper on a book without pages to be right."""
    out = steps_done(case, book, steps)
    sizes, _ = book
    case.assertTrue(any(
        all(((i, a), (i, a)) in out for a in range(many)) for i, many in enumerate(sizes)
    ))


def moved_by(many, saying):
    """The same saying of settings that stand further on by as many as told."""
    match saying:
        case ("own", i, worths):
            return ("own", i + many, worths)
        case ("tied", i, j, pairs):
            return ("tied", i + many, j + many, pairs)
        case ("either", i, a, j, b):
            return ("either", i + many, a, j + many, b)


class OutPaperTest(unittest.TestCase):
    def judge(self, book, pages):
        """Hold the papers of all two pairs against all pages."""
        for one, two in itertools.product(cells_of(book[0]), repeat=2):
            found = out_paper(book, one, two)
            if any(page[one[0]] == one[1] and page[two[0]] == two[1] for page in pages):
                exactly(self, found, None)
            else:
                right_out(self, book, found, one, two)

    def test_the_examples(self):
        exactly(self, out_paper(M, (0, 1), (1, 0)), None)
        for book, one, two in ((M, (0, 1), (1, 1)), (H, (0, 1), (2, 0)), (C, (0, 1), (0, 1))):
            right_out(self, book, out_paper(book, one, two), one, two)
        # What DOC.md says these may be is right as well.
        right_out(self, M, (), (0, 1), (1, 1))
        right_out(self, H, ((0, 1, 2, 0, 1),), (0, 1), (2, 0))
        right_out(self, C, ((0, 1, 0, 1, 1),), (0, 1), (0, 1))

    def test_books_page_by_page(self):
        for book in (M, C, H) + NO_PAGE:
            self.judge(book, lawful_pages(book))
        told = [0, 0]
        for book, pages in small_books(seeded(291), 250):
            self.judge(book, pages)
            told[bool(pages)] += 1
        self.assertGreater(min(told), 30)

    def test_all_books_of_two_sayings(self):
        for book, pages in books_of_two_sayings():
            self.judge(book, pages)

    def test_random_books_of_three_sayings_of_two_settings(self):
        source = seeded(292)
        for sizes in ((3, 3), (2, 4), (4, 4)):
            for _ in range(150):
                book = (sizes, tuple(random_saying(source, sizes) for _ in range(3)))
                self.judge(book, lawful_pages(book))

    def test_two_worths_of_one_setting(self):
        for book in (M, C, N, ((6,), ())):
            for i, many in enumerate(book[0]):
                for a, b in itertools.permutations(range(many), 2):
                    exactly(self, out_paper(book, (i, a), (i, b)), ())

    def test_where_each_part_of_23_stops(self):
        # To two worths of one setting, to one that an own saying does not let, to one in no pair.
        chain = (("either", 0, 0, 1, 1), ("either", 1, 0, 2, 1))
        for sizes, sayings in (
            ((2, 2, 2), chain + (("own", 2, (0,)),)),
            ((2, 2, 2), chain + (("either", 0, 0, 2, 0),)),
            ((2, 2, 2), chain + (("either", 0, 0, 2, 0),)[::-1]),
            ((2, 2, 2), (("either", 0, 0, 2, 0),) + chain),
            ((2, 2, 2, 2), chain + (("tied", 2, 3, ((0, 0),)),)),
            ((2, 2, 2, 2), chain + (("either", 2, 0, 3, 1), ("either", 0, 0, 3, 0))),
            ((2, 2, 2), chain + (("either", 0, 0, 2, 0), ("tied", 0, 1, ((0, 0), (1, 1))))),
        ):
            book = (sizes, sayings)
            self.judge(book, lawful_pages(book))
        round_about = (("tied", 0, 1, ((0, 1), (1, 2), (2, 0))), ("tied", 1, 2, ((0, 1), (1, 2), (2, 0))))
        for last in (((0, 0), (1, 1), (2, 2)), ((0, 0), (1, 2), (2, 1)), ((1, 0), (2, 1)), ((0, 2), (1, 0), (2, 1))):
            book = ((3, 3, 3), round_about + (("tied", 0, 2, last),))
            self.judge(book, lawful_pages(book))

    def test_books_without_pages_and_settings_that_have_no_part_in_it(self):
        for book in NO_PAGE:
            for rest in ((2,), (1, 3)):
                more = (rest + book[0], tuple(moved_by(len(rest), saying) for saying in book[1]))
                self.judge(more, [])
                right_none(self, more, none_paper(more))

    def test_wrong_pairs(self):
        book = ((3, 2), (("either", 0, 0, 1, 1),))
        for wrong in WRONG_CELLS:
            refused(self, BadWorth, 0, out_paper, book, wrong, (0, 0))
            refused(self, BadWorth, 1, out_paper, book, (0, 0), wrong)
            for other in WRONG_CELLS:
                refused(self, BadWorth, 0, out_paper, book, wrong, other)
        none = ((3, 2), (("own", 0, (0,)), ("own", 0, (1,))))
        for wrong in WRONG_CELLS:
            refused(self, BadWorth, 0, out_paper, none, wrong, (0, 0))
            refused(self, BadWorth, 1, out_paper, none, (0, 0), wrong)

    def test_wrong_books_go_first(self):
        for book, error, what in WRONG_BOOKS:
            for one, two in (((0, 0), (0, 0)), (None, None), ((9, 9), (0, 0))):
                refused(self, error, what, out_paper, book, one, two)


class NonePaperTest(unittest.TestCase):
    def test_the_examples(self):
        for book in NO_PAGE + (((2,), (("own", 0, (0,)), ("own", 0, (1,)))),):
            right_none(self, book, none_paper(book))
        right_none(self, N, ((0, 0, 0, 0, 1), (0, 1, 0, 1, 1)))
        exactly(self, none_paper(((2,), (("own", 0, (0,)), ("own", 0, (1,))))), ())

    def test_books_page_by_page(self):
        source = seeded(293)
        told = [0, 0]
        for _ in range(400):
            book = random_book(source, random_sizes(source, 4), 14)
            if lawful_pages(book):
                refused(self, HasPage, 0, none_paper, book)
            else:
                found = none_paper(book)
                right_none(self, book, found)
                exactly(self, none_paper(book), found)
            told[bool(lawful_pages(book))] += 1
        self.assertGreater(min(told), 100)

    def test_books_that_some_page_keeps(self):
        for book in (M, C, H, ((1,), ()), ((6,) * 24, ())):
            refused(self, HasPage, 0, none_paper, book)

    def test_a_chain_through_all_settings(self):
        sizes = (6,) * 24
        ties = tuple(("tied", at, at + 1, tuple((worth, worth) for worth in range(6))) for at in range(23))
        turned = ("tied", 0, 23, tuple((worth, (worth + 1) % 6) for worth in range(6)))
        for sayings in (ties + (turned,), (turned,) + ties[::-1], ties[::2] + (turned,) + ties[1::2]):
            book = (sizes, sayings)
            with Quick(self):
                found = none_paper(book)
            right_none(self, book, found)
            with Quick(self):
                found = out_paper(book, (3, 1), (9, 4))
            right_out(self, book, found, (3, 1), (9, 4))
        with Quick(self):
            found = out_paper((sizes, ties), (0, 3), (23, 4))
        right_out(self, (sizes, ties), found, (0, 3), (23, 4))

    def test_wrong_books(self):
        for book, error, what in WRONG_BOOKS:
            refused(self, error, what, none_paper, book)


if __name__ == "__main__":
    unittest.main()
