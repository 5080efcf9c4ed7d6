"""[9]: the sorts of pairs."""

import itertools
import time
import unittest

from onlyforced.errors import BadPairs
from onlyforced.sorts import sort_of
from tests.helpers import THINGS, exactly, nested, random_thing, refused, seeded, spoilt

GREAT = 10 ** 900


def sort_told(pairs):
    """The sort as the document tells it, asked pair by pair."""
    firsts = sorted({a for a, _ in pairs})
    seconds = sorted({b for _, b in pairs})
    if all((a, b) in pairs for a in firsts for b in seconds):
        return ("free",)
    one_each = [[a for a, _ in pairs].count(a) == 1 for a in firsts]
    one_each += [[b for _, b in pairs].count(b) == 1 for b in seconds]
    if all(one_each):
        return ("tied",)
    for a, b in itertools.product(firsts, seconds):
        wanted = {(c, d) for c in firsts for d in seconds if c == a or d == b}
        if wanted == set(pairs):
            return ("either", a, b)
    return None


def either_pairs(firsts, seconds, a, b):
    return tuple(sorted([(a, d) for d in seconds] + [(c, b) for c in firsts if c != a]))


def pairs_right(thing):
    """Whether thing is what [9] calls pairs."""
    if type(thing) is not tuple or not thing:
        return False
    for part in thing:
        if type(part) is not tuple or len(part) != 2:
            return False
        if any(type(number) is not int or number < 0 for number in part):
            return False
    return list(thing) == sorted(set(thing))


class SortsTest(unittest.TestCase):
    def test_the_examples(self):
        exactly(self, sort_of(((0, 0), (0, 1), (1, 1), (2, 1))), ("either", 0, 1))
        exactly(self, sort_of(((0, 5), (3, 2))), ("tied",))
        exactly(self, sort_of(((4, 1), (4, 3))), ("free",))
        exactly(self, sort_of(((0, 1), (0, 2), (1, 0))), None)

    def test_one_pair_alone_is_free(self):
        for pair in ((0, 0), (0, 7), (7, 0), (GREAT, 3), (GREAT, GREAT)):
            exactly(self, sort_of((pair,)), ("free",))

    def test_one_first_or_one_second_is_free_ahead_of_either(self):
        exactly(self, sort_of(((2, 0), (2, 1), (2, 5))), ("free",))
        exactly(self, sort_of(((0, 2), (1, 2), (5, 2))), ("free",))

    def test_either_of_two_by_two(self):
        exactly(self, sort_of(((0, 0), (0, 1), (1, 0))), ("either", 0, 0))
        exactly(self, sort_of(((0, 0), (0, 1), (1, 1))), ("either", 0, 1))
        exactly(self, sort_of(((0, 0), (1, 0), (1, 1))), ("either", 1, 0))
        exactly(self, sort_of(((0, 1), (1, 0), (1, 1))), ("either", 1, 1))

    def test_all_sets_of_pairs_of_three_by_three(self):
        cells = list(itertools.product(range(3), repeat=2))
        for many in range(1, 10):
            for pairs in itertools.combinations(cells, many):
                exactly(self, sort_of(pairs), sort_told(pairs))

    def test_random_pairs_of_small_and_of_great_numbers(self):
        source = seeded(9)
        for step in (1, 7, GREAT, 2 ** 61 - 1):
            for _ in range(300):
                firsts = [step * n for n in range(source.randint(1, 5))]
                seconds = [step * n for n in range(source.randint(1, 5))]
                cells = list(itertools.product(firsts, seconds))
                pairs = tuple(sorted(source.sample(cells, source.randint(1, len(cells)))))
                exactly(self, sort_of(pairs), sort_told(pairs))

    def test_great_numbers(self):
        free = tuple(itertools.product((3, GREAT), (0, GREAT + 1)))
        exactly(self, sort_of(free), ("free",))
        exactly(self, sort_of(((0, GREAT), (GREAT, 0))), ("tied",))
        exactly(self, sort_of(either_pairs((1, GREAT, GREAT + 1), (2, GREAT), GREAT, GREAT)),
                ("either", GREAT, GREAT))
        exactly(self, sort_of(((0, 1), (0, GREAT), (GREAT, 0))), None)

    def test_either_with_one_pair_less_or_more(self):
        firsts, seconds = (0, 1, 4, 9), (2, 3, 8)
        for a, b in itertools.product(firsts, seconds):
            pairs = either_pairs(firsts, seconds, a, b)
            exactly(self, sort_of(pairs), ("either", a, b))
            for gone in pairs:
                less = tuple(pair for pair in pairs if pair != gone)
                exactly(self, sort_of(less), sort_told(less))
            for more in itertools.product(firsts, seconds):
                if more not in pairs:
                    exactly(self, sort_of(tuple(sorted(pairs + (more,)))), None)

    def test_as_many_pairs_as_either_has_but_others(self):
        exactly(self, sort_of(((0, 0), (0, 1), (1, 1), (1, 2), (2, 2))), None)
        exactly(self, sort_of(((0, 0), (0, 1), (0, 2), (1, 0), (2, 1))), None)
        exactly(self, sort_of(((0, 0), (0, 1), (1, 0), (1, 2), (2, 0))), None)


class WrongPairsTest(unittest.TestCase):
    def test_no_tuple_or_an_empty_one(self):
        for thing in ((), None, 0, 3, True, "", "ab"):
            refused(self, BadPairs, -1, sort_of, thing)

    def test_parts_that_are_no_pairs_of_numbers(self):
        parts = (
            None, 3, True, "ab", "", (), (1,), (1, 2, 3), (-1, 0), (0, -1), (True, 0), (0, True),
            (False, 0), (0, False), (None, 0), (0, None), ("0", 0), (0, "0"), ((0, 0), (0, 0)),
            ((), 0), nested(49, 0),
        )
        for part in parts:
            for thing in ((part,), (part, (5, 5)), ((0, 0), part), ((0, 0), part, (9, 9))):
                refused(self, BadPairs, -1, sort_of, thing)

    def test_pairs_that_do_not_rise(self):
        for thing in (
            ((0, 0), (0, 0)), ((0, 1), (0, 0)), ((1, 0), (0, 1)), ((0, 0), (2, 0), (1, 0)),
            ((0, 0), (1, 1), (1, 1)), ((GREAT, 0), (0, 0)),
        ):
            refused(self, BadPairs, -1, sort_of, thing)

    def test_any_thing_is_refused_or_has_a_sort(self):
        source = seeded(99)
        things = list(THINGS) + [random_thing(source, 4) for _ in range(1000)]
        right = either_pairs((0, 1, 2), (0, 3), 1, 3)
        things += [spoilt(source, right) for _ in range(1000)]
        for thing in things:
            if pairs_right(thing):
                exactly(self, sort_of(thing), sort_told(thing))
            else:
                refused(self, BadPairs, -1, sort_of, thing)


class QuickTest(unittest.TestCase):
    def test_many_pairs_are_told_quickly(self):
        many = 33000
        # All multiples of this number have one hash.
        shared_hash = 2 ** 61 - 1
        for step in (1, shared_hash):
            free = tuple((a * step, b * step) for a in range(180) for b in range(180))
            tied = tuple((n * step, (many - n) * step) for n in range(many))
            half = tuple(n * step for n in range(many // 2))
            either = either_pairs(half, half, 5 * step, 7 * step)
            crossing = (5 * step, 7 * step)
            less = tuple(pair for pair in either if pair != crossing)
            none = tied[:-1] + ((many * step, many * step),)
            begun = time.monotonic()
            exactly(self, sort_of(free), ("free",))
            exactly(self, sort_of(tied), ("tied",))
            exactly(self, sort_of(either), ("either", 5 * step, 7 * step))
            exactly(self, sort_of(less), None)
            exactly(self, sort_of(none), None)
            self.assertLess(time.monotonic() - begun, 5)


if __name__ == "__main__":
    unittest.main()
