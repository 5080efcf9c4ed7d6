"""[21] to [24]: tight books, books that are alike, what follows and what is against it."""

import itertools
import unittest

from onlyforced.books import is_book
from onlyforced.closing import against, alike, follows, tight
from onlyforced.errors import BadSaying, Unlike
from onlyforced.pages import move
from tests.helpers import (
    C, M, N, WRONG_BOOKS, all_sayings, exactly, lawful_pages, nested, random_book, random_saying,
    refused, saying_kept, seeded, small_books, tight_told,
)


class TightTest(unittest.TestCase):
    def test_the_examples(self):
        owns = (("own", 0, (0, 1)), ("own", 1, (0, 1)), ("own", 2, (0, 1)))
        exactly(self, tight(M), ((2, 2, 2), owns + M[1]))
        exactly(self, tight(C), ((2, 2), (("own", 0, (0,)), ("own", 1, (0, 1)))))
        exactly(self, tight(N), None)

    def test_page_by_page(self):
        kept = 0
        for book, pages in small_books(seeded(21)):
            if not pages:
                exactly(self, tight(book), None)
                continue
            kept += 1
            exactly(self, tight(book), tight_told(book[0], pages))
            self.assertEqual(lawful_pages(tight(book)), pages)
            exactly(self, tight(tight(book)), tight(book))
        self.assertTrue(100 < kept < 400, kept)

    def test_all_books_of_two_sayings_over_small_sizes(self):
        for sizes in ((3,), (2, 2), (2, 3)):
            for sayings in itertools.product(all_sayings(sizes), repeat=2):
                pages = lawful_pages((sizes, sayings))
                told = tight_told(sizes, pages) if pages else None
                exactly(self, tight((sizes, sayings)), told)

    def test_no_saying_at_all(self):
        for sizes in ((1,), (3, 2), (6,) * 24, (1,) * 24):
            owns = tuple(("own", i, tuple(range(many))) for i, many in enumerate(sizes))
            exactly(self, tight((sizes, ())), (sizes, owns))

    def test_what_is_led_to_over_several_settings(self):
        chain = tuple(("either", at, 0, at + 1, 1) for at in range(3))
        book = ((2,) * 4, chain)
        eithers = tuple(("either", i, 0, j, 1) for i, j in itertools.combinations(range(4), 2))
        owns = tuple(("own", at, (0, 1)) for at in range(4))
        exactly(self, tight(book), ((2,) * 4, owns + eithers))
        exactly(self, tight(((2,) * 4, chain + (("own", 0, (1,)), ("own", 3, (0,))))), None)
        ones = ((2,) * 4, tuple(("own", at, (1,)) for at in range(4)))
        exactly(self, tight(((2,) * 4, chain + (("own", 0, (1,)),))), ones)
        zeros = ((2,) * 4, tuple(("own", at, (0,)) for at in range(4)))
        exactly(self, tight(((2,) * 4, (("own", 3, (0,)),) + chain)), zeros)

    def test_what_ties_come_to(self):
        round_about = (
            ("tied", 0, 1, ((0, 1), (1, 2), (2, 0))), ("tied", 1, 2, ((0, 1), (1, 2), (2, 0))),
        )
        sizes = (3, 3, 3)
        owns = tuple(("own", at, (0, 1, 2)) for at in range(3))
        through = ("tied", 0, 2, ((0, 2), (1, 0), (2, 1)))
        exactly(self, tight((sizes, round_about)), (sizes, owns + (round_about[0], through, round_about[1])))
        crossed = ("tied", 0, 2, ((0, 0), (1, 1), (2, 2)))
        exactly(self, tight((sizes, round_about + (crossed,))), None)
        one_page = ("tied", 0, 2, ((0, 0), (1, 2), (2, 1)))
        exactly(self, tight((sizes, round_about + (one_page,))),
                (sizes, (("own", 0, (2,)), ("own", 1, (0,)), ("own", 2, (1,)))))
        two_pages = ("tied", 0, 2, ((1, 0), (2, 1)))
        exactly(self, tight((sizes, round_about + (two_pages,))), (sizes, (
            ("own", 0, (1, 2)), ("own", 1, (0, 2)), ("own", 2, (0, 1)),
            ("tied", 0, 1, ((1, 2), (2, 0))), ("tied", 0, 2, ((1, 0), (2, 1))),
            ("tied", 1, 2, ((0, 1), (2, 0))),
        )))

    def test_own_sayings_that_meet_and_do_not(self):
        book = ((4,), (("own", 0, (0, 1, 2)), ("own", 0, (1, 2, 3)), ("own", 0, (0, 2, 3))))
        exactly(self, tight(book), ((4,), (("own", 0, (2,)),)))
        exactly(self, tight(((4,), book[1] + (("own", 0, (0, 1)),))), None)

    def test_moves_of_lawful_pages_are_lawful(self):
        for book, pages in small_books(seeded(23)):
            if len(pages) <= 10:
                for x, y, z in itertools.product(pages, repeat=3):
                    self.assertIn(move(x, y, z), pages)

    def test_wrong_books(self):
        for book, error, what in WRONG_BOOKS:
            refused(self, error, what, tight, book)


class AlikeTest(unittest.TestCase):
    def test_the_examples(self):
        self.assertIs(alike(M, tight(M)), True)
        self.assertIs(alike(C, ((2, 2), (("own", 0, (0,)),))), True)
        self.assertIs(alike(C, ((2, 2), (("own", 0, (1,)),))), False)
        self.assertIs(alike(C, N), False)
        self.assertIs(alike(N, N), True)
        self.assertIs(alike(N, ((2, 2), (("own", 1, (0,)), ("own", 1, (1,))))), True)

    def test_page_by_page(self):
        source = seeded(22)
        told = {True: 0, False: 0}
        for one, pages in small_books(source):
            sizes, sayings = one
            others = [random_book(source, sizes, 8), (sizes, sayings + (random_saying(source, sizes),))]
            others += [(sizes, sayings[::-1] + sayings), (sizes, sayings[1:])]
            for two in others:
                wanted = lawful_pages(two) == pages
                self.assertIs(alike(one, two), wanted)
                self.assertIs(alike(two, one), wanted)
                self.assertIs(tight(one) == tight(two), wanted)
                told[wanted] += 1
        self.assertGreater(min(told.values()), 300)

    def test_unlike_sizes(self):
        books = (((2, 2), ()), ((2, 3), ()), ((2,), ()), ((2, 2, 1), ()), M, ((3, 2), ()))
        for one, two in itertools.permutations(books, 2):
            refused(self, Unlike, 0, alike, one, two)
        refused(self, Unlike, 0, alike, N, M)

    def test_wrong_books(self):
        for one, error, what in WRONG_BOOKS:
            refused(self, error, what, alike, M, one)
            refused(self, error, what, alike, one, M)
            for two, _, _ in WRONG_BOOKS:
                refused(self, error, what, alike, one, two)


class FollowsTest(unittest.TestCase):
    def against_told(self, pages, saying):
        wrong = [page for page in pages if not saying_kept(saying, page)]
        return wrong[0] if wrong else None

    def test_the_examples(self):
        exactly(self, against(M, ("own", 2, (0,))), (0, 0, 1))
        exactly(self, against(M, ("tied", 0, 1, ((0, 0), (1, 1)))), (0, 1, 0))
        self.assertIs(follows(M, ("own", 2, (0,))), False)
        self.assertIs(follows(C, ("own", 0, (0,))), True)
        exactly(self, against(C, ("own", 0, (0,))), None)

    def test_all_sayings_page_by_page(self):
        source = seeded(24)
        for sizes in ((4,), (2, 3), (3, 3), (2, 2, 2), (2, 1, 3)):
            sayings = list(all_sayings(sizes))
            for _ in range(12):
                book = random_book(source, sizes, 5)
                pages = lawful_pages(book)
                for saying in sayings:
                    wanted = self.against_told(pages, saying)
                    exactly(self, against(book, saying), wanted)
                    self.assertIs(follows(book, saying), wanted is None)

    def test_random_sayings_page_by_page(self):
        source = seeded(25)
        for book, pages in small_books(source):
            for saying in book[1]:
                exactly(self, against(book, saying), None)
                self.assertIs(follows(book, saying), True)
            for _ in range(4):
                saying = random_saying(source, book[0])
                wanted = self.against_told(pages, saying)
                exactly(self, against(book, saying), wanted)
                self.assertIs(follows(book, saying), wanted is None)

    def test_each_saying_follows_where_no_page_is(self):
        for saying in all_sayings((2, 2)):
            self.assertIs(follows(N, saying), True)
            exactly(self, against(N, saying), None)

    def test_what_is_no_saying(self):
        wrong = (
            None, 0, "own", (), ("own",), ("own", 2, (0,)), ("own", 0, ()), ("own", 0, (2,)),
            ("own", 0, (1, 0)), ("own", True, (0,)), ("tied", 1, 0, ((0, 0),)), ("tied", 0, 1, ()),
            ("tied", 0, 1, ((0, 0), (1, 0))), ("tied", 0, 1, ((0, True),)), ("either", 0, 0, 0, 1),
            ("either", 0, 0, 1, 2), ("either", 0, 0, 1), ("free", 0, 1), nested(50, 0),
        )
        for book in (C, N, ((2, 2), ())):
            for saying in wrong:
                refused(self, BadSaying, 0, follows, book, saying)
                refused(self, BadSaying, 0, against, book, saying)
        # It is a saying over other sizes, but not over those of the book.
        self.assertIs(is_book(((2, 2, 2), (("own", 2, (0,)),))), True)
        refused(self, BadSaying, 0, follows, C, ("own", 2, (0,)))

    def test_wrong_books_go_ahead_of_the_saying(self):
        for book, error, what in WRONG_BOOKS:
            for saying in (("own", 0, (0,)), None, ("own", 9, (0,))):
                refused(self, error, what, follows, book, saying)
                refused(self, error, what, against, book, saying)


class WorthsLeftTest(unittest.TestCase):
    """The words of [23] on worths and on two worths, done as they stand there."""

    def leads(self, sayings, setting, worth):
        seen, todo = set(), [(setting, worth)]
        while todo:
            here = todo.pop()
            if here in seen:
                continue
            seen.add(here)
            for saying in sayings:
                todo += self.steps(saying, *here)
        return seen

    def steps(self, saying, at, worth):
        match saying:
            case ("tied", i, j, pairs) if at == i:
                return [(j, b) for a, b in pairs if a == worth]
            case ("tied", i, j, pairs) if at == j:
                return [(i, a) for a, b in pairs if b == worth]
            case ("either", i, a, j, b) if at == i and worth != a:
                return [(j, b)]
            case ("either", i, a, j, b) if at == j and worth != b:
                return [(i, a)]
        return []

    def lost(self, sayings, led):
        if len({at for at, _ in led}) < len(led):
            return True
        for saying, (at, worth) in itertools.product(sayings, led):
            match saying:
                case ("own", i, worths) if at == i and worth not in worths:
                    return True
                case ("tied", i, j, pairs) if at == i and worth not in [a for a, _ in pairs]:
                    return True
                case ("tied", i, j, pairs) if at == j and worth not in [b for _, b in pairs]:
                    return True
        return False

    def test_what_is_left_is_what_the_pages_have(self):
        for (sizes, sayings), pages in small_books(seeded(26)):
            left = {}
            for at, many in enumerate(sizes):
                for worth in range(many):
                    led = self.leads(sayings, at, worth)
                    if not self.lost(sayings, led):
                        left[at, worth] = dict(led)
            self.assertIs(bool(pages), len({at for at, _ in left}) == len(sizes))
            if not pages:
                continue
            self.assertEqual(set(left), {cell for page in pages for cell in enumerate(page)})
            for (i, a), (j, b) in itertools.product(left, repeat=2):
                wanted = left[i, a].get(j, b) == b and left[j, b].get(i, a) == a
                self.assertIs(any(page[i] == a and page[j] == b for page in pages), wanted)


if __name__ == "__main__":
    unittest.main()
