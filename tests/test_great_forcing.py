"""Great books and tables: what wishes force, what is safe, papers, meek desks, hulls, all told soon."""

import itertools
import unittest

from onlyforced.books import keeps
from onlyforced.edits import fits, over, within
from onlyforced.errors import CannotMeet, HasPage
from onlyforced.fills import least_page
from onlyforced.forcing import (
    bar, breaks_in, can_meet, edit_for, fixed, forced, reason, safe_in,
)
from onlyforced.hulls import hull, hull_table, made_by
from onlyforced.judge import writable
from onlyforced.meek import meek_right, near, stuck
from onlyforced.papers import none_paper, out_paper
from onlyforced.tables import forced_of
from tests.helpers import (
    exactly, lawful_pages, planted_book, random_edit, random_page, random_saying, refused, seeded, tight_told,
)
from tests.test_forcing import agreed_told, bar_told, edit_told, reason_told
from tests.test_great import equal_chain, law_of_193_to_200, sizes_of_24, soon
from tests.test_hulls import made_rightly
from tests.test_meek import near_told
from tests.test_papers import right_none, right_out


def great_books(source, lengths=(12, 17, 24), counts=(0, 3, 12, 30, 100, 400)):
    """Books of many settings, each with a page that keeps it."""
    for many, most, sayings in itertools.product(lengths, (2, 4, 6), counts):
        sizes = tuple(source.randint(2, most) for _ in range(many))
        yield planted_book(source, sizes, sayings)
    for sizes in sizes_of_24():
        for sayings in (20, 40, 400):
            yield planted_book(source, sizes, sayings)


def part_of(source, page, most):
    """A wish that the page has."""
    told = sorted(source.sample(range(len(page)), source.randint(0, min(most, len(page)))))
    return tuple((at, page[at]) for at in told)


class GreatForcingTest(unittest.TestCase):
    def forced_by_pages(self, book, wish):
        """What the wish forces, setting by setting, as the least pages tell it."""
        told = []
        for at, worth in enumerate(least_page(book, wish)):
            if at in dict(wish):
                told.append((at, worth))
                continue
            others = [tuple(sorted(wish + ((at, other),))) for other in range(book[0][at]) if other != worth]
            if all(least_page(book, more) is None for more in others):
                told.append((at, worth))
        return tuple(told)

    def hold_met(self, book, wish, still):
        """Hold what is told of a wish that can be met."""
        self.assertIs(soon(self, can_meet, book, wish), True)
        exactly(self, soon(self, bar, book, wish), None)
        told = self.forced_by_pages(book, wish)
        exactly(self, soon(self, forced, book, wish), told)
        edit = soon(self, edit_for, book, wish)
        exactly(self, edit, tuple(pair for pair in told if pair in wish or pair not in still))
        self.assertIs(soon(self, safe_in, book, edit), True)
        exactly(self, soon(self, breaks_in, book, edit), None)
        alone = {pair[0]: dict(edit_for(book, (pair,))) for pair in wish}
        for setting in range(0, len(book[0]), 5):
            found = soon(self, reason, book, wish, setting)
            if setting not in dict(edit) or setting in dict(wish):
                exactly(self, found, ("wish",) if setting in dict(edit) else None)
            else:
                exactly(self, found, ("by", min(at for at in alone if setting in alone[at])))

    def hold_unmet(self, book, wish):
        """Hold what is told of a wish that cannot be met."""
        self.assertIs(soon(self, can_meet, book, wish), False)
        pair = soon(self, bar, book, wish)
        for one, two in itertools.combinations_with_replacement(wish, 2):
            there = least_page(book, tuple(sorted({one, two})))
            if (one[0], two[0]) == pair:
                self.assertIsNone(there)
                break
            self.assertIsNotNone(there)
        for call in (forced, edit_for):
            refused(self, CannotMeet, pair, call, book, wish)
        refused(self, CannotMeet, pair, reason, book, wish, 0)

    def hold_edit(self, book, edit):
        page = soon(self, breaks_in, book, edit)
        self.assertIs(soon(self, safe_in, book, edit), page is None)
        if page is not None:
            self.assertTrue(keeps(book, page))
            self.assertFalse(keeps(book, over(page, edit)))
        elif can_meet(book, edit):
            self.assertTrue(within(edit_for(book, edit), tuple(sorted(set(edit) | set(fixed(book))))))

    def test_books_that_some_page_keeps(self):
        source = seeded(271)
        for book, page in great_books(source):
            still = soon(self, fixed, book)
            exactly(self, still, self.forced_by_pages(book, ()))
            self.hold_met(book, part_of(source, page, 3), still)
            self.hold_met(book, tuple(enumerate(page)), still)
            for most in (3, 12):
                wish = random_edit(source, book[0])[:most]
                if least_page(book, wish) is None:
                    self.hold_unmet(book, wish)
                else:
                    self.hold_met(book, wish, still)
                self.hold_edit(book, wish)
                self.hold_edit(book, part_of(source, page, most))

    def test_books_of_twelve_settings_page_by_page(self):
        source = seeded(272)
        for sayings in (6, 14, 22, 30):
            book, _ = planted_book(source, (2,) * 12, sayings)
            pages = lawful_pages(book)
            exactly(self, fixed(book), agreed_told(pages, ()))
            for _ in range(30):
                wish = random_edit(source, book[0])[:source.randint(0, 5)]
                exactly(self, soon(self, bar, book, wish), bar_told(pages, wish))
                wrong = [page for page in pages if over(page, wish) not in set(pages)]
                self.assertIs(soon(self, safe_in, book, wish), not wrong)
                if bar_told(pages, wish) is None:
                    exactly(self, soon(self, forced, book, wish), agreed_told(pages, wish))
                    exactly(self, soon(self, edit_for, book, wish), edit_told(pages, wish))
                    for setting in range(12):
                        exactly(self, soon(self, reason, book, wish, setting), reason_told(pages, wish, setting))


class GreatPapersTest(unittest.TestCase):
    def hold_two(self, book, one, two):
        sizes, sayings = book
        steps = soon(self, out_paper, book, one, two)
        page = least_page(book, tuple(sorted({one, two}))) if one == two or one[0] != two[0] else None
        if page is None:
            right_out(self, book, steps, one, two)
        else:
            self.assertTrue(fits(page, (one, two)))
            exactly(self, steps, None)

    def test_books_that_some_page_keeps(self):
        source = seeded(291)
        for book, page in great_books(source, (12, 24)):
            refused(self, HasPage, 0, none_paper, book)
            for _ in range(6):
                one, two = (source.choice(list(enumerate(random_page(source, book[0])))) for _ in range(2))
                self.hold_two(book, one, two)
            one, two = source.choices(list(enumerate(page)), k=2)
            exactly(self, soon(self, out_paper, book, one, two), None)

    def test_books_that_no_page_keeps(self):
        source = seeded(292)
        for sizes in ((2,) * 12, (4,) * 12) + sizes_of_24():
            for sayings in (60, 400):
                if min(sizes) == 1:
                    chain = (("own", 1, (0,)), ("own", 1, (5,)))
                else:
                    chain = (("own", 0, (0,)), ("own", 11, (1,))) + equal_chain(sizes[:12])
                more = tuple(random_saying(source, sizes) for _ in range(sayings - len(chain)))
                for all_of_them in (chain, chain + more, more + chain[::-1]):
                    book = (sizes, all_of_them)
                    right_none(self, book, soon(self, none_paper, book))
                    for _ in range(4):
                        one, two = (source.choice(list(enumerate(random_page(source, sizes)))) for _ in range(2))
                        right_out(self, book, soon(self, out_paper, book, one, two), one, two)

    def test_long_chains(self):
        sizes = (2,) * 24
        chain = tuple(("either", at, 0, at + 1, 1) for at in range(23))
        for sayings in (chain, chain[::-1], chain[::2] + chain[1::2]):
            self.hold_two((sizes, sayings), (0, 1), (23, 0))
            self.hold_two((sizes, sayings), (23, 0), (0, 1))
            self.hold_two((sizes, sayings), (23, 1), (0, 0))
            book = (sizes, sayings + (("own", 0, (1,)), ("own", 23, (0,))))
            right_none(self, book, soon(self, none_paper, book))
            # Nothing leads on from 1 to 0 beyond the ends, so this leans on the pages that are not.
            self.hold_two((sizes, sayings + (("own", 23, (0,)),)), (0, 1), (0, 1))


class GreatTablesTest(unittest.TestCase):
    def laws(self, source):
        """Tables of 193 to 200 pages, some of which a book has."""
        for most in (5, 8, 12, 24):
            sizes, pages = law_of_193_to_200(source, most)
            yield (sizes, pages)
            for _ in range(2):
                gone = source.choice(pages)
                yield (sizes, tuple(page for page in pages if page != gone))
        for sizes in ((6, 6, 6), (6,) * 8, (2,) * 12, (6,) * 24, (2,) * 24):
            pages = set()
            while len(pages) < 200:
                pages.add(random_page(source, sizes))
            yield (sizes, tuple(sorted(pages)))

    def test_meek_desks_and_near_pages(self):
        source = seeded(151)
        told = [0, 0]
        for table in self.laws(source):
            pages = table[1]
            found = soon(self, stuck, table)
            self.assertIs(found is None, writable(table))
            told[found is None] += 1
            if found is not None:
                self.assertIn(found[0], pages)
                self.assertTrue(any(fits(page, found[1]) for page in pages))
                self.assertNotIn(over(found[0], forced_of(table, found[1])), pages)
                self.assertFalse(any(meek_right(table, *found, new) for new in pages[::9]))
            for _ in range(4):
                page, new = source.choices(pages, k=2)
                wish = part_of(source, new, 4)
                exactly(self, soon(self, near, table, page, wish), near_told(table, page, wish))
                wanted = new == over(page, forced_of(table, wish))
                self.assertIs(soon(self, meek_right, table, page, wish, new), wanted)
                meek = over(page, forced_of(table, wish))
                self.assertIs(soon(self, meek_right, table, page, wish, meek), meek in pages)
        self.assertGreater(min(told), 3)

    def test_hulls(self):
        source = seeded(311)
        made = 0
        for most in (4, 5, 6, 8, 12, 17, 24) * 2:
            sizes, pages = law_of_193_to_200(source, most)
            book = tight_told(sizes, pages)
            exactly(self, soon(self, hull, (sizes, pages)), book)
            exactly(self, soon(self, hull_table, (sizes, pages)), (sizes, pages))
            for left in (source.sample(pages, many) for many in (len(pages) - 1, 150, 40, 15)):
                table = (sizes, tuple(sorted(left)))
                wanted = soon(self, hull_table, table)
                exactly(self, soon(self, hull, table), tight_told(*wanted))
                self.assertTrue(set(left) <= set(wanted[1]) <= set(pages))
                self.assertTrue(writable(wanted))
                for page in source.sample(pages, 3) + source.sample(wanted[1], 2):
                    rows = soon(self, made_by, table, page)
                    if page in wanted[1]:
                        made_rightly(self, table, rows, page)
                        made += len(rows) > 0
                    else:
                        exactly(self, rows, None)
        self.assertGreater(made, 20)


if __name__ == "__main__":
    unittest.main()
