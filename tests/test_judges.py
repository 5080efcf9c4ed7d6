"""[0.2]: judges raise nothing, return bools, and say what the functions beside them say."""

import unittest

from onlyforced.books import broken, is_book, is_saying, keeps, made_book
from onlyforced.edits import is_edit, made_edit
from onlyforced.errors import BadBook, BadEdit, BadPage, BadSaying, BadSizes, BadTable
from onlyforced.pages import is_page, is_sizes, made_page, made_sizes
from onlyforced.tables import is_table, lawful, made_table
from tests.helpers import (
    THINGS, nested, random_book, random_edit, random_page, random_saying, random_sizes, random_table,
    random_thing, seeded, spoilt,
)


def raises(error_classes, call, *args):
    """Whether a call raises one of these errors; any other one goes through."""
    try:
        call(*args)
    except error_classes:
        return True
    return False


class JudgesTest(unittest.TestCase):
    def judge_one(self, thing):
        self.assertIs(is_sizes(thing), not raises(BadSizes, made_sizes, thing))
        self.assertIs(is_table(thing), not raises((BadTable, BadSizes), made_table, thing))
        self.assertIs(is_book(thing), not raises((BadBook, BadSizes, BadSaying), made_book, thing))

    def judge_two(self, one, two):
        self.assertIs(is_page(one, two), not raises((BadSizes, BadPage), made_page, one, two))
        self.assertIs(is_edit(one, two), not raises((BadSizes, BadEdit), made_edit, one, two))
        told = lawful(one, two)
        self.assertIs(type(told), bool)
        if told:
            self.assertIs(is_table(one) and is_page(one[0], two), True)
        self.assertIs(is_saying(one, two), is_book((one, (two,))))
        errors = (BadBook, BadSizes, BadSaying, BadPage)
        self.assertIs(keeps(one, two), not raises(errors, broken, one, two) and broken(one, two) is None)

    def test_all_things(self):
        for one in THINGS:
            self.judge_one(one)
            for two in THINGS:
                self.judge_two(one, two)

    def test_random_things(self):
        source = seeded(2)
        for _ in range(3000):
            one, two = random_thing(source, 5), random_thing(source, 5)
            self.judge_one(one)
            self.judge_two(one, two)

    def test_things_that_are_right_but_for_one_place(self):
        source = seeded(22)
        for _ in range(1500):
            sizes = random_sizes(source, 6)
            page, edit = random_page(source, sizes), random_edit(source, sizes)
            table = random_table(source)
            self.judge_one(spoilt(source, sizes))
            self.judge_one(spoilt(source, table))
            for thing in (page, edit):
                self.judge_two(sizes, spoilt(source, thing))
                self.judge_two(spoilt(source, sizes), thing)
            self.judge_two(spoilt(source, table), table[1][0])
            self.judge_two(table, spoilt(source, table[1][-1]))
            book, saying = random_book(source, sizes, 4), random_saying(source, sizes)
            self.judge_one(spoilt(source, book))
            self.judge_two(sizes, spoilt(source, saying))
            self.judge_two(spoilt(source, sizes), saying)
            self.judge_two(spoilt(source, book), page)
            self.judge_two(book, spoilt(source, page))

    def test_large_things(self):
        shared = (0,)
        for _ in range(15):
            shared = (shared, shared)
        for thing in ((0,) * 99999, ((0, 0),) * 33000, (shared, shared), nested(50, (0,) * 90000)):
            self.judge_one(thing)
            self.judge_one(((2, 2), (("own", 0, thing), ("tied", 0, 1, thing))))
            self.judge_one(((2, 2), (("own", 0, (0,)), ("tied", 0, 1, thing))))
            for other in ((2, 2), ((2, 2), ((0, 0),)), ((2, 2), ()), thing):
                self.judge_two(thing, other)
                self.judge_two(other, thing)


if __name__ == "__main__":
    unittest.main()
