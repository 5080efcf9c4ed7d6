"""Great books and tables: what is told of them is right, and told soon."""

import itertools
import unittest

from onlyforced.books import broken, is_book, keeps, made_book
from onlyforced.closing import against, alike, follows, tight
from onlyforced.edits import fits
from onlyforced.fills import least_page, pages_of
from onlyforced.judge import book_of, three, why, writable
from onlyforced.pages import move
from onlyforced.safe import breaks, safe
from tests.helpers import (
    Quick, exactly, lawful_pages, planted_book, random_edit, random_page, random_saying, saying_kept,
    seeded, tight_told,
)


def soon(case, call, *args):
    """What a call returns, which has to be there soon."""
    with Quick(case):
        return call(*args)


def code(page):
    """A page as one number, three bits for each setting."""
    return sum(worth << 3 * at for at, worth in enumerate(page))


def moves_within(pages):
    """Whether the moves of all threes of pages, in each order, are among them.

    A move depends on the first two pages by what they agree on, so each such edit is laid over
    all pages once; pages are gone through as numbers, as there are up to 200.
    """
    agreed = set()
    for x, y in itertools.combinations_with_replacement(pages, 2):
        same = sum(7 << 3 * at for at, (a, b) in enumerate(zip(x, y)) if a == b)
        agreed.add((same, code(x) & same))
    codes = {code(page) for page in pages}
    for same, worths in agreed:
        if any((page & ~same) | worths not in codes for page in codes):
            return False
    return True


def sizes_of_24():
    return ((2,) * 24, (6,) * 24, (6, 2, 3) * 8, (1, 6) * 12, (3,) * 24)


def equal_chain(sizes):
    """Sayings that have each two neighbours be of one worth."""
    sayings = []
    for at, (one, two) in enumerate(zip(sizes, sizes[1:])):
        sayings.append(("tied", at, at + 1, tuple((worth, worth) for worth in range(min(one, two)))))
    return tuple(sayings)


class GreatBooksTest(unittest.TestCase):
    def hold(self, source, book, page):
        """Hold what is told of a book against a page that keeps it, and against one another."""
        sizes, _ = book
        self.assertIs(soon(self, is_book, book), True)
        self.assertIs(soon(self, keeps, book, page), True)
        exactly(self, soon(self, broken, book, page), None)
        closed = soon(self, tight, book)
        self.assertEqual(closed[0], sizes)
        self.assertTrue(all(saying_kept(one, page) for one in closed[1]))
        exactly(self, soon(self, tight, closed), closed)
        self.assertIs(soon(self, alike, book, closed), True)
        pages = soon(self, pages_of, book, 200)
        self.assertEqual(list(pages), sorted(set(pages)))
        for told in pages:
            self.assertTrue(all(saying_kept(one, told) for one in book[1]))
        exactly(self, soon(self, least_page, book, tuple(enumerate(page))), page)
        exactly(self, soon(self, least_page, book, ()), pages[0])
        if len(pages) < 200:
            self.assertIn(page, pages)
            exactly(self, closed, tight_told(sizes, pages))
        for _ in range(3):
            self.hold_page(book, pages, random_page(source, sizes))
            self.hold_saying(book, pages, random_saying(source, sizes))
            self.hold_wish(book, pages, random_edit(source, sizes)[:3])

    def hold_page(self, book, pages, page):
        wrong = [at for at, saying in enumerate(book[1]) if not saying_kept(saying, page)]
        exactly(self, soon(self, broken, book, page), wrong[0] if wrong else None)
        self.assertIs(soon(self, keeps, book, page), not wrong)
        if len(pages) < 200:
            self.assertIs(page in pages, not wrong)

    def hold_saying(self, book, pages, saying):
        page = soon(self, against, book, saying)
        self.assertIs(soon(self, follows, book, saying), page is None)
        if len(book[1]) < 400:
            with_it = (book[0], book[1] + (saying,))
            self.assertIs(soon(self, alike, book, with_it), page is None)
        wrong = [told for told in pages if not saying_kept(saying, told)]
        if wrong or len(pages) < 200:
            exactly(self, page, wrong[0] if wrong else None)
        elif page is not None:
            self.assertTrue(page > pages[-1] and keeps(book, page) and not saying_kept(saying, page))

    def hold_wish(self, book, pages, wish):
        page = soon(self, least_page, book, wish)
        with_it = [told for told in pages if fits(told, wish)]
        if with_it or len(pages) < 200:
            exactly(self, page, with_it[0] if with_it else None)
        elif page is not None:
            self.assertTrue(page > pages[-1] and keeps(book, page) and fits(page, wish))
        owns = tuple(("own", at, (worth,)) for at, worth in wish)
        if len(book[1] + owns) <= 400:
            self.assertIs(soon(self, tight, (book[0], book[1] + owns)) is None, page is None)

    def test_books_that_some_page_keeps(self):
        source = seeded(241)
        for many in (12, 17, 24):
            for most, sayings in itertools.product((2, 4, 6), (0, 3, 12, 30, 100, 390)):
                sizes = tuple(source.randint(2, most) for _ in range(many))
                self.hold(source, *planted_book(source, sizes, sayings))

    def test_the_greatest_books(self):
        source = seeded(242)
        for sizes in sizes_of_24():
            for sayings in (20, 40, 400):
                self.hold(source, *planted_book(source, sizes, sayings))

    def test_books_of_twelve_settings_page_by_page(self):
        source = seeded(243)
        sizes = (2,) * 12
        for sayings in (6, 14, 22, 30):
            book, _ = planted_book(source, sizes, sayings)
            pages = lawful_pages(book)
            exactly(self, soon(self, tight, book), tight_told(sizes, pages))
            exactly(self, soon(self, pages_of, book, 200), tuple(pages[:200]))
            for _ in range(20):
                wish = random_edit(source, sizes)
                wanted = [page for page in pages if fits(page, wish)]
                exactly(self, soon(self, least_page, book, wish), wanted[0] if wanted else None)
                saying = random_saying(source, sizes)
                wanted = [page for page in pages if not saying_kept(saying, page)]
                exactly(self, soon(self, against, book, saying), wanted[0] if wanted else None)

    def test_books_that_no_page_keeps(self):
        source = seeded(244)
        for sizes in ((2,) * 12,) + sizes_of_24():
            for sayings in (60, 400):
                if min(sizes) == 1:
                    ends, chain = (("own", 1, (0,)), ("own", 1, (5,))), ()
                else:
                    ends, chain = (("own", 0, (0,)), ("own", 11, (1,))), equal_chain(sizes[:12])
                random_ones = tuple(random_saying(source, sizes) for _ in range(sayings - 13))
                book = (sizes, ends + chain + random_ones)
                self.assertIs(soon(self, is_book, book), True)
                exactly(self, soon(self, tight, book), None)
                self.assertIs(soon(self, alike, book, (sizes, chain + ends)), True)
                for saying in random_ones[:3]:
                    self.assertIs(soon(self, follows, book, saying), True)
                    exactly(self, soon(self, against, book, saying), None)
                self.assertIs(soon(self, keeps, book, random_page(source, sizes)), False)

    def test_long_chains(self):
        sizes = (2,) * 24
        chain = tuple(("either", at, 0, at + 1, 1) for at in range(23))
        steps = tuple((0,) * (24 - many) + (1,) * many for many in range(25))
        for sayings in (chain, chain[::-1], chain[::2] + chain[1::2]):
            exactly(self, soon(self, pages_of, (sizes, sayings), 200), steps)
            exactly(self, soon(self, tight, (sizes, sayings)), tight_told(sizes, steps))
            exactly(self, soon(self, least_page, (sizes, sayings), ((3, 1),)), steps[21])
            ends = (("own", 0, (1,)), ("own", 23, (0,)))
            exactly(self, soon(self, tight, (sizes, sayings + ends)), None)
            exactly(self, soon(self, against, (sizes, sayings), ("either", 0, 0, 23, 1)), None)
            exactly(self, soon(self, against, (sizes, sayings), ("either", 0, 1, 23, 0)), steps[1])

    def test_books_with_much_that_is_wrong(self):
        sizes = (6,) * 24
        for thing in (
            (sizes, (("own", 0, (0,) * 90000),)), (sizes, (("tied", 0, 1, ((0, 0),) * 30000),)),
            (sizes, (None,) * 90000), (sizes, (("own", 0, tuple(range(40000))),)),
        ):
            self.assertIs(soon(self, is_book, thing), False)
            with Quick(self), self.assertRaises(ValueError):
                made_book(thing)


def widened(source, sizes, pages):
    """One setting more, which makes more pages of a law that sayings tell."""
    if source.random() < 0.6:
        many = source.randint(2, 6)
        return sizes + (many,), [page + (worth,) for page in pages for worth in range(many)]
    # Only with the worth 0 of the new setting the others need not be as they are on one page.
    many = source.randint(2, 6)
    named = source.choice(pages)
    more = [page + (0,) for page in pages] + [named + (worth,) for worth in range(1, many)]
    return sizes + (many,), more


def lengthened(source, sizes, pages):
    """One setting more that is tied to another one, or fixed: as many pages as before."""
    many = source.randint(1, 6)
    if source.random() < 0.3:
        worth = source.randrange(many)
        return sizes + (many,), [page + (worth,) for page in pages]
    at = source.randrange(len(sizes))
    many = source.randint(sizes[at], 6)
    worths = source.sample(range(many), sizes[at])
    return sizes + (many,), [page + (worths[page[at]],) for page in pages]


def law_of_193_to_200(source, most):
    """A table of 193 to 200 pages that some book has, of most settings, or of fewer."""
    while True:
        sizes, pages = (6,), [(worth,) for worth in range(6)]
        while len(pages) < 193:
            sizes, pages = widened(source, sizes, pages)
        if len(pages) > 200 or len(sizes) > most:
            continue
        while len(sizes) < most:
            sizes, pages = lengthened(source, sizes, pages)
        order = source.sample(range(most), most)
        pages = sorted(tuple(page[at] for at in order) for page in pages)
        return (tuple(sizes[at] for at in order), tuple(pages))


def even_pages(source, many, most):
    """Pages of many settings of two worths, all settings behind the first 7 being sums of others."""
    pages = set()
    while len(pages) < most:
        bits = [source.randrange(2) for _ in range(7)]
        bits += [(bits[at % 7] + bits[(at + 1) % 7] + bits[(at + 3) % 7]) % 2 for at in range(7, many)]
        pages.add(tuple(bits))
    return tuple(sorted(pages))


class GreatTablesTest(unittest.TestCase):
    def judge(self, table, wanted):
        told = soon(self, why, table)
        self.assertIs(soon(self, writable, table), wanted)
        exactly(self, soon(self, three, table), None if wanted else told[1:])
        exactly(self, told[0], "book" if wanted else "three")
        if wanted:
            exactly(self, told[1], tight_told(*table))
            exactly(self, soon(self, book_of, table), told[1])
            exactly(self, soon(self, tight, told[1]), told[1])
            exactly(self, soon(self, pages_of, told[1], 200), table[1])
        else:
            self.assertEqual(len(told), 4)
            self.assertTrue(all(page in table[1] for page in told[1:]))
            self.assertNotIn(move(*told[1:]), table[1])

    def laws(self, source):
        for most in (5, 6, 8, 12, 17, 24):
            for _ in range(2):
                yield law_of_193_to_200(source, most)

    def test_tables_that_are_writable(self):
        for table in self.laws(seeded(193)):
            self.assertTrue(193 <= len(table[1]) <= 200)
            self.assertTrue(moves_within(table[1]))
            self.judge(table, True)

    def test_the_same_with_a_page_less_or_another_one(self):
        source = seeded(194)
        told = [0, 0]
        for sizes, pages in self.laws(source):
            for _ in range(3):
                gone = source.choice(pages)
                less = tuple(page for page in pages if page != gone)
                near = gone[:-1] + (source.randrange(sizes[-1]),)
                for some in (less, tuple(sorted(set(less) | {random_page(source, sizes)})),
                             tuple(sorted(set(less) | {near}))):
                    wanted = moves_within(some)
                    told[wanted] += 1
                    self.judge((sizes, some), wanted)
        self.assertGreater(min(told), 3)

    def test_fans_and_chains(self):
        fans = [page for page in itertools.product(range(4), repeat=2) if 0 in page]
        pages = tuple(one + two + (last,) for one in fans for two in fans for last in range(4))
        self.assertEqual(len(pages), 196)
        self.judge(((4,) * 5, pages), True)
        chains = [[(0,) * (long - ones) + (1,) * ones for ones in range(long + 1)] for long in (19, 4, 1)]
        pages = tuple(sorted(sum(parts, ()) for parts in itertools.product(*chains)))
        self.assertEqual(len(pages), 200)
        self.judge(((2,) * 24, pages), True)

    def test_random_and_even_tables(self):
        source = seeded(195)
        for sizes in ((6, 6, 6), (6,) * 8, (2,) * 12, (6,) * 24, (2,) * 24):
            pages = set()
            while len(pages) < 200:
                pages.add(random_page(source, sizes))
            self.judge((sizes, tuple(sorted(pages))), False)
        for many in (8, 9, 24):
            self.judge(((2,) * many, even_pages(source, many, 128)), False)
            # With one worth more, and so each page more than once, there are 200 of them.
            pages = [page + (more,) for page in even_pages(source, many - 1, 100) for more in range(2)]
            self.judge(((2,) * many, tuple(pages)), False)

    def test_safe_and_breaks(self):
        source = seeded(196)
        for sizes, pages in self.laws(source):
            for _ in range(5):
                edit = random_edit(source, sizes)
                laid = [tuple(dict(edit).get(at, worth) for at, worth in enumerate(page)) for page in pages]
                wrong = [page for page, other in zip(pages, laid) if other not in pages]
                exactly(self, soon(self, breaks, (sizes, pages), edit), wrong[0] if wrong else None)
                self.assertIs(soon(self, safe, (sizes, pages), edit), not wrong)


if __name__ == "__main__":
    unittest.main()
