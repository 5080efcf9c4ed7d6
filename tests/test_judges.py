"""[0.2]: judges raise nothing, return bools, and say what the functions beside them say."""

import unittest

from onlyforced.edits import is_edit, made_edit
from onlyforced.errors import BadEdit, BadPage, BadSizes, BadTable
from onlyforced.pages import is_page, is_sizes, made_page, made_sizes
from onlyforced.tables import is_table, lawful, made_table
from tests.helpers import (
    THINGS, nested, random_edit, random_page, random_sizes, random_table, random_thing, seeded, spoilt,
)


def raises(error_classes, call, *args):
    """Whether a call raises one of these errors; any other one goes through."""
    try:
        call(*args)
    except error_classes:
        return True
    return False


class JudgesTest(unittest.TestCase):
    def judge_one(self, thing):
        self.assertIs(is_sizes(thing), not raises(BadSizes, made_sizes, thing))
        self.assertIs(is_table(thing), not raises((BadTable, BadSizes), made_table, thing))

    def judge_two(self, one, two):
        self.assertIs(is_page(one, two), not raises((BadSizes, BadPage), made_page, one, two))
        self.assertIs(is_edit(one, two), not raises((BadSizes, BadEdit), made_edit, one, two))
        told = lawful(one, two)
        self.assertIs(type(told), bool)
        if told:
            self.assertIs(is_table(one) and is_page(one[0], two), True)

    def test_all_things(self):
        for one in THINGS:
            self.judge_one(one)
            for two in THINGS:
                self.judge_two(one, two)

    def test_random_things(self):
        source = seeded(2)
        for _ in range(3000):
            one, two = random_thing(source, 5), random_thing(source, 5)
            self.judge_one(one)
            self.judge_two(one, two)

    def test_things_that_are_right_but_for_one_place(self):
        source = seeded(22)
        for _ in range(1500):
            sizes = random_sizes(source, 6)
            page, edit = random_page(source, sizes), random_edit(source, sizes)
            table = random_table(source)
            self.judge_one(spoilt(source, sizes))
            self.judge_one(spoilt(source, table))
            for thing in (page, edit):
                self.judge_two(sizes, spoilt(source, thing))
                self.judge_two(spoilt(source, sizes), thing)
            self.judge_two(spoilt(source, table), table[1][0])
            self.judge_two(table, spoilt(source, table[1][-1]))

    def test_large_things(self):
        shared = (0,)
        for _ in range(15):
            shared = (shared, shared)
        for thing in ((0,) * 99999, ((0, 0),) * 33000, (shared, shared), nested(50, (0,) * 90000)):
            self.judge_one(thing)
            for other in ((2, 2), ((2, 2), ((0, 0),)), thing):
                self.judge_two(thing, other)
                self.judge_two(other, thing)


if __name__ == "__main__":
    unittest.main()
