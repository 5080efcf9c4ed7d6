"""[0.3]: what holds over the whole program."""

import unittest

from onlyforced.closing import tight
from onlyforced.errors import CannotMeet, NotWritable
from onlyforced.fills import pages_of
from onlyforced.forcing import bar, edit_for, safe_in
from onlyforced.hulls import hull
from onlyforced.judge import book_of, three, why, writable
from onlyforced.kernel import book_right, none_right, out_right, stuck_right, three_right
from onlyforced.lawtexts import law_book, law_table, print_book, print_law, read_law
from onlyforced.meek import meek_right, stuck
from onlyforced.papers import none_paper, out_paper
from onlyforced.safe import least_edits
from onlyforced.texts import print_edit, print_page, read_edit, read_page
from onlyforced.worlds import World
from tests.helpers import (
    all_edits, books_of_two_sayings, exactly, random_edit, random_page, refused, seeded, small_books, tables_about,
    tight_told,
)
from tests.test_houses import some_lot
from tests.test_papers import cells_of
from tests.test_writable import small_tables
from tests.texts_about import random_law, random_rule, sizes_told, unlike_names


class TablesTest(unittest.TestCase):
    def hold(self, table):
        """(a): three pages, a wish with two least safe edits or more and a stuck desk; or the book."""
        sizes, pages = table
        told = why(table)
        several = [wish for wish in all_edits(sizes) if self.least(table, wish) > 1]
        self.assertIs(told[0] == "book", writable(table))
        if told[0] == "book":
            self.assertIs(book_right(table, told[1]), True)
            exactly(self, told[1], tight_told(sizes, pages))
            exactly(self, pages_of(told[1], 200), pages)
            exactly(self, (several, stuck(table), three(table)), ([], None, None))
            return True
        self.assertIs(three_right(table, *told[1:]), True)
        self.assertIs(book_right(table, hull(table)), False)
        self.assertTrue(several)
        page, wish = stuck(table)
        self.assertIs(stuck_right(table, page, wish), True)
        self.assertFalse(any(meek_right(table, page, wish, new) for new in pages))
        refused(self, NotWritable, 0, book_of, table)
        return False

    def least(self, table, wish):
        """How many least safe edits a wish has, 0 if it cannot be met."""
        try:
            return len(least_edits(table, wish))
        except CannotMeet:
            return 0

    def test_small_tables(self):
        told = [0, 0]
        for table in list(small_tables((2, 2, 2)))[::3] + list(tables_about(seeded(31), 150)):
            if len(table[1]) <= 60:
                told[self.hold(table)] += 1
        self.assertGreater(min(told), 50)


class BooksTest(unittest.TestCase):
    def test_each_wish_has_one_least_safe_edit(self):
        """(b), of edits."""
        for book, pages in small_books(seeded(32), 120):
            if not pages or len(pages) > 60:
                continue
            table = (book[0], tuple(pages))
            for wish in all_edits(book[0])[:80]:
                if bar(book, wish) is None:
                    exactly(self, least_edits(table, wish), (edit_for(book, wish),))
                    self.assertIs(safe_in(book, edit_for(book, wish)), True)

    def test_whole_worlds_show_what_is_lawful(self):
        """(b), of worlds."""
        source = seeded(33)
        for book, pages in small_books(source, 150):
            if not pages:
                continue
            lots = tuple(some_lot(source, len(book[0])) for _ in range(source.randint(1, 8)))
            world = World(book, source.choice(pages), lots, "whole")
            for _ in range(40):
                h, page = source.randrange(len(lots)), source.choice(pages)
                if world.letters() == 0 or source.random() < 0.4:
                    world.wish(h, tuple((at, page[at]) for at in lots[h] if source.random() < 0.5))
                else:
                    number = source.randrange(world.letters())
                    if set(lots[h]) <= set(world.letter(number)[0]):
                        world.bring(number, h)
                    world.send(h)
                for at in range(len(lots)):
                    shown = world.shown(at)
                    self.assertTrue(any(all(page[i] == a for i, a in shown) for page in pages))

    def test_the_same_pages_exactly_if_the_tight_books_are_equal(self):
        """(c)."""
        by_pages = {}
        for book, pages in books_of_two_sayings():
            key = (book[0], tuple(pages))
            by_pages.setdefault(key, tight(book))
            exactly(self, tight(book), by_pages[key])
        lawful = [book for (sizes, pages), book in by_pages.items() if pages]
        self.assertEqual(len(set(lawful)), len(lawful))

    def test_papers_tell_just_what_no_page_has(self):
        for book, pages in small_books(seeded(34), 60):
            for one in cells_of(book[0]):
                for two in cells_of(book[0]):
                    steps = out_paper(book, one, two)
                    met = any(page[one[0]] == one[1] and page[two[0]] == two[1] for page in pages)
                    self.assertIs(steps is not None and out_right(book, steps, one, two), not met)
            if not pages:
                self.assertIs(none_right(book, none_paper(book)), True)


class TextsTest(unittest.TestCase):
    def test_what_is_told_is_read_as_it_was(self):
        """(d), of all that can be read, up to 20000 signs."""
        source = seeded(35)
        longest = 0
        for many in list(range(1, 25)) * 4:
            sizes = tuple(source.randint(1, 6) for _ in range(many))
            settings = unlike_names(source, many)
            names = tuple((name, unlike_names(source, size)) for name, size in zip(settings, sizes))
            rules = tuple(random_rule(source, sizes) for _ in range(source.choice((0, 5, 100, 400))))
            told = print_law(names, rules)
            if len(told) <= 20000:
                longest = max(longest, len(told))
                exactly(self, read_law(told), (names, rules))
                exactly(self, print_law(*read_law(told)), told)
            sayings = tuple(rule for rule in rules if rule[0] != "rule")
            told = print_book(names, (sizes, sayings))
            if len(told) <= 20000:
                exactly(self, read_law(told), (names, sayings))
                exactly(self, law_book(*read_law(told)), (sizes, sayings))
            page, edit = random_page(source, sizes), random_edit(source, sizes)
            exactly(self, read_page(names, print_page(names, page)), page)
            exactly(self, read_edit(names, print_edit(names, edit)), edit)
        self.assertGreater(longest, 10000)

    def test_what_is_read_told_and_read_again_is_the_same(self):
        source = seeded(36)
        for _ in range(200):
            names, rules = random_law(source)
            text = print_law(names, rules).replace(" ;", ";").replace(" ,", ",").replace("( ", "((").replace(" )", "))")
            if max(text.count("("), text.count("not")) < 15:
                exactly(self, read_law(print_law(*read_law(text))), (names, rules))

    def test_a_law_a_table_and_its_book_tell_the_same(self):
        source = seeded(37)
        told = [0, 0]
        for _ in range(600):
            names, rules = random_law(source)
            try:
                table = law_table(names, rules)
            except ValueError:
                continue
            if writable(table):
                book = book_of(table)
                exactly(self, law_table(*read_law(print_book(names, book))), table)
            told[writable(table)] += 1
            self.assertEqual(table[0], sizes_told(names))
        self.assertGreater(min(told), 5)


if __name__ == "__main__":
    unittest.main()
