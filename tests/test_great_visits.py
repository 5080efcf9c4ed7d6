"""Great books: what wishes that stand come to, rows of edits, and houses, all told soon."""

import itertools
import unittest

from onlyforced.books import keeps
from onlyforced.edits import fits, over
from onlyforced.errors import Quarrel, TooMany
from onlyforced.fills import least_page
from onlyforced.forcing import can_meet, edit_for, fixed
from onlyforced.houses import House, reopened
from onlyforced.quarrels import fought, joint, most_content, parting, quarrel, quiet
from onlyforced.rowedits import laid_all, part_page, same
from onlyforced.visits import after, changes, ends, made_wishes
from tests.helpers import Quick, exactly, random_edit, random_page, refused, seeded
from tests.test_great import soon
from tests.test_great_forcing import great_books, part_of
from tests.test_visits import visited


def meetable(source, book, page, most):
    """A wish that can be met: a small one, or else a part of the page."""
    wish = random_edit(source, book[0])[:source.randint(0, most)]
    return wish if can_meet(book, wish) else part_of(source, page, most)


def some_hands(source, book, page, many):
    return tuple(meetable(source, book, page, 3) for _ in range(many))


class GreatVisitsTest(unittest.TestCase):
    def hold_visits(self, source, book, page, wishes, edits):
        visits = tuple(source.choices(range(len(wishes)), k=200))
        there, counts = page, [0] * len(page)
        for visit in visits:
            new = visited(there, edits[visit])
            counts = [count + (a != b) for count, a, b in zip(counts, there, new)]
            there = new
        exactly(self, soon(self, after, book, page, wishes, visits), there)
        exactly(self, soon(self, changes, book, page, wishes, visits), tuple(counts))
        still = soon(self, quiet, book, page, wishes)
        last = page
        for edit in edits:
            last = visited(last, edit)
        self.assertTrue(fits(last, still))
        found = soon(self, ends, book, page, wishes[:6])
        self.assertTrue(all(keeps(book, one) for one in found))
        wanted = set()
        for order in itertools.permutations(edits[:6]):
            last = page
            for edit in order:
                last = visited(last, edit)
            wanted.add(last)
        exactly(self, found, tuple(sorted(wanted)))
        refused(self, TooMany, 12, ends, book, page, wishes)
        return still

    def hold_quarrels(self, book, wishes, edits, still):
        parted, friends = set(), set()
        for i, j in itertools.combinations(range(12), 2):
            found = soon(self, parting, book, wishes[i], wishes[j])
            exactly(self, found, tuple(at for at, worth in edits[i] if dict(edits[j]).get(at, worth) != worth))
            union = tuple(sorted(set(wishes[i] + wishes[j])))
            together = len(dict(union)) == len(union) and least_page(book, union) is not None
            self.assertIs(together, found == ())
            parted |= set(found)
            if together:
                friends.add((i, j))
        apart = [two for two in itertools.combinations(range(12), 2) if two not in friends]
        exactly(self, soon(self, quarrel, book, wishes), apart[0] if apart else None)
        exactly(self, soon(self, fought, book, wishes), tuple(sorted(parted)))
        self.assertEqual([at for at in range(len(book[0])) if at not in parted], [at for at, _ in still])
        if apart:
            with Quick(self):
                refused(self, Quarrel, apart[0], joint, book, wishes)
        else:
            union = tuple(sorted({pair for wish in wishes for pair in wish}))
            exactly(self, soon(self, joint, book, wishes), edit_for(book, union))
        content = soon(self, most_content, book, wishes)
        self.assertTrue(all(two in friends for two in itertools.combinations(content, 2)))
        for many in (len(content), len(content) + 1):
            for some in itertools.combinations(range(12), many):
                if all(two in friends for two in itertools.combinations(some, 2)):
                    self.assertEqual((some, len(some)), (content, many))
                    break

    def test_books_that_some_page_keeps(self):
        source = seeded(351)
        for book, page in great_books(source, (12, 24), (3, 30, 100, 400)):
            wishes = some_hands(source, book, page, 12)
            exactly(self, soon(self, made_wishes, book, wishes), wishes)
            edits = [edit_for(book, wish) for wish in wishes]
            still = self.hold_visits(source, book, page, wishes, edits)
            self.hold_quarrels(book, wishes, edits, still)

    def test_twelve_wishes_with_many_quarrels_and_with_none(self):
        sizes = (2,) * 24
        book = (sizes, tuple(("either", at, 0, at + 12, 0) for at in range(12)) * 33)
        for wishes, content in (
            (tuple(((at, 1),) for at in range(12)), tuple(range(12))),
            (tuple(((at // 2 + 12 * (at % 2), 1),) for at in range(12)), (0, 2, 4, 6, 8, 10)),
            (tuple(((0, at % 2),) for at in range(12)), (0, 2, 4, 6, 8, 10)),
            (((),) * 12, tuple(range(12))),
        ):
            exactly(self, soon(self, most_content, book, wishes), content)


class GreatEditsTest(unittest.TestCase):
    def test_rows_of_60_edits(self):
        source = seeded(381)
        told = [0, 0]
        for book, page in great_books(source, (12, 24), (3, 30, 100, 400)):
            edits = tuple(random_edit(source, book[0]) for _ in range(60))
            whole = soon(self, laid_all, book[0], edits)
            there = page
            for edit in edits:
                there = visited(there, edit)
            exactly(self, over(page, whole), there)
            others = (edits[::-1], edits[1:], (whole,), (whole, fixed(book)), edits[1:] + (part_of(source, page, 3),), ())
            for other in others:
                found = soon(self, part_page, book, edits, other)
                self.assertIs(soon(self, same, book, edits, other), found is None)
                told[found is None] += 1
                if found is None:
                    exactly(self, visited(page, whole), visited(page, laid_all(book[0], other)))
                else:
                    self.assertTrue(keeps(book, found))
                    self.assertNotEqual(over(found, whole), over(found, laid_all(book[0], other)))
        self.assertGreater(min(told), 20)


class GreatHousesTest(unittest.TestCase):
    def test_houses_of_great_books(self):
        source = seeded(411)
        for book, first in great_books(source, (12, 24), (3, 30, 400)):
            lots = [tuple(range(len(book[0]))), tuple(sorted(source.sample(range(len(book[0])), 5)))]
            houses = [soon(self, House, book, lot, first, h) for h, lot in enumerate(lots)]
            deeds = {}
            for _ in range(6):
                for house in houses:
                    page = least_page(book, random_edit(source, book[0])[:1]) or random_page(source, book[0])
                    lot = house.lot()
                    wish = tuple((at, page[at]) for at in source.sample(lot, 2))
                    wish = tuple(sorted(wish)) if can_meet(book, tuple(sorted(wish))) else ()
                    letter = soon(self, house.wish, wish)
                    if wish:
                        deeds[letter[1][0][2]] = edit_for(book, wish)
                    for other in houses:
                        soon(self, other.hear, letter)
            shown = first
            for stamp in sorted(deeds):
                shown = visited(shown, deeds[stamp])
            self.assertTrue(keeps(book, shown))
            for h, house in enumerate(houses):
                exactly(self, house.shown(), tuple((at, shown[at]) for at in house.lot()))
                again = soon(self, reopened, book, house.lot(), h, house.row())
                exactly(self, again.letter(), house.letter())


if __name__ == "__main__":
    unittest.main()
