"""[61]: whether formulas are true of pages."""

import itertools
import unittest

from onlyforced.formulas import true_at
from onlyforced.lawtexts import read_law
from tests.helpers import Quick, all_pages, seeded
from tests.texts_about import NAMES, SETTINGS, random_formula


def true_told(formula, page):
    """[61], word by word."""
    match formula:
        case ("is", setting, worth):
            return page[setting] == worth
        case ("not", part):
            return not true_told(part, page)
        case ("if", one, two):
            return not true_told(one, page) or true_told(two, page)
        case ("and", parts):
            return all(true_told(part, page) for part in parts)
        case ("or", parts):
            return any(true_told(part, page) for part in parts)


class TrueTest(unittest.TestCase):
    def test_each_sort(self):
        yes, no = ("is", 0, 1), ("is", 0, 2)
        for one, two in itertools.product((yes, no), repeat=2):
            a, b = one == yes, two == yes
            self.assertIs(true_at(one, (1, 0)), a)
            self.assertIs(true_at(("not", one), (1, 0)), not a)
            self.assertIs(true_at(("if", one, two), (1, 0)), b or not a)
            self.assertIs(true_at(("and", (one, two)), (1, 0)), a and b)
            self.assertIs(true_at(("or", (one, two)), (1, 0)), a or b)
        for parts in itertools.product((yes, no), repeat=4):
            self.assertIs(true_at(("and", parts), (1, 0)), no not in parts)
            self.assertIs(true_at(("or", parts), (1, 0)), yes in parts)

    def test_the_law_of_the_document(self):
        names, rules = read_law(SETTINGS + "; rule if state open or state shut then lock on")
        self.assertEqual(names, NAMES)
        true = [page for page in all_pages((3, 2)) if true_at(rules[0][1], page)]
        self.assertEqual(true, [(0, 0), (0, 1), (1, 1), (2, 1)])

    def test_formulas_by_chance(self):
        source = seeded(611)
        told = [0, 0]
        for _ in range(1500):
            sizes = tuple(source.randint(1, 3) for _ in range(source.randint(1, 3)))
            formula = random_formula(source, sizes, source.randint(0, 6))
            for page in all_pages(sizes):
                self.assertIs(true_at(formula, page), true_told(formula, page))
                told[true_told(formula, page)] += 1
        self.assertGreater(min(told), 1000)

    def test_100_formulas_within_one_another(self):
        for wrap in (
            lambda part: ("not", part), lambda part: ("and", (("is", 0, 0), part)), lambda part: ("or", (part, ("is", 0, 1))),
            lambda part: ("if", ("is", 0, 0), part), lambda part: ("if", part, ("is", 1, 1)),
        ):
            deep = ("is", 1, 0)
            for _ in range(99):
                deep = wrap(deep)
            for page in all_pages((2, 2)):
                self.assertIs(true_at(deep, page), true_told(deep, page))

    def test_wide_formulas(self):
        with Quick(self):
            self.assertIs(true_at(("and", (("is", 0, 1),) * 100000), (1,)), True)
            self.assertIs(true_at(("or", (("is", 0, 1),) * 100000), (0,)), False)


if __name__ == "__main__":
    unittest.main()
