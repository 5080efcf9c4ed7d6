"""[52] and [53]: ledgers beside plain lists of deeds, going back and forth."""

import unittest

from onlyforced.errors import (
    AlreadyOut, BadEdit, BadPage, BadStamp, BadStamps, CannotMeet, Full, HasStamp, NoPage, NoStamp, NotLawful, NotOut,
    NothingAgain, NothingBack,
)
from onlyforced.ledger import Ledger
from tests.helpers import (
    C, M, NO_PAGE, Quick, WRONG_BOOKS, exactly, nested, planted_book, refused, seeded, small_books, wrong_edits,
    wrong_pages,
)
from tests.test_forcing import edit_told
from tests.test_houses import DOOR
from tests.test_letters import RIGHT_STAMPS, WRONG_STAMPS
from tests.test_visits import visited


class Plain:
    """A ledger as [52] and [53] tell it: all that was and will be is kept whole."""

    def __init__(self, pages, page):
        self.pages, self.first = pages, page
        self.kept = {}
        self.past, self.future = [], []

    def change(self, kept):
        self.past.append(self.kept)
        self.kept, self.future = kept, []

    def put(self, stamp, wish):
        self.change({**self.kept, stamp: (wish, True)})

    def withdraw(self, stamp):
        self.change({**self.kept, stamp: (self.kept[stamp][0], False)})

    def restore(self, stamp):
        self.change({**self.kept, stamp: (self.kept[stamp][0], True)})

    def back(self):
        self.future.append(self.kept)
        self.kept = self.past.pop()

    def again(self):
        self.past.append(self.kept)
        self.kept = self.future.pop()

    def deeds(self):
        return tuple((stamp, *self.kept[stamp]) for stamp in sorted(self.kept))

    def page_of(self, stamps):
        page = self.first
        for stamp in sorted(stamps):
            page = visited(page, edit_told(self.pages, self.kept[stamp][0]))
        return page

    def page(self):
        return self.page_of([stamp for stamp in self.kept if self.kept[stamp][1]])


class LedgerTest(unittest.TestCase):
    def test_the_example(self):
        ledger = Ledger(DOOR, (0, 1))
        exactly(self, ledger.page(), (0, 1))
        exactly(self, ledger.deeds(), ())
        exactly(self, ledger.put((1, 0), ((0, 2),)), None)
        exactly(self, ledger.put((2, 1), ((1, 0),)), None)
        exactly(self, ledger.page(), (0, 0))
        exactly(self, ledger.page_of(((1, 0),)), (2, 1))
        exactly(self, ledger.withdraw((2, 1)), None)
        exactly(self, ledger.page(), (2, 1))
        exactly(self, ledger.deeds(), (((1, 0), ((0, 2),), True), ((2, 1), ((1, 0),), False)))
        exactly(self, ledger.back(), None)
        exactly(self, ledger.page(), (0, 0))
        ledger.back()
        exactly(self, ledger.page(), (2, 1))
        exactly(self, ledger.deeds(), (((1, 0), ((0, 2),), True),))
        exactly(self, ledger.again(), None)
        exactly(self, ledger.page(), (0, 0))
        ledger.again()
        exactly(self, ledger.page(), (2, 1))
        refused(self, NothingAgain, 0, ledger.again)

    def step(self, source, ledger, plain):
        """One step, that may be refused, of both."""
        stamp = (source.randrange(3), source.randrange(3))
        way = source.choice(("put", "put", "withdraw", "restore", "back", "back", "again", "again"))
        page = source.choice(plain.pages)
        wish = tuple((at, worth) for at, worth in enumerate(page) if source.random() < 0.4)
        there = stamp in plain.kept
        stands = there and plain.kept[stamp][1]
        wrong = {
            "put": there and HasStamp, "withdraw": not stands and (AlreadyOut if there else NoStamp),
            "restore": (not there or stands) and (NotOut if there else NoStamp),
            "back": not plain.past and NothingBack, "again": not plain.future and NothingAgain,
        }[way]
        given = {"put": (stamp, wish), "back": (), "again": ()}.get(way, (stamp,))
        if wrong:
            refused(self, wrong, 0, getattr(ledger, way), *given)
        else:
            exactly(self, getattr(ledger, way)(*given), None)
            getattr(plain, way)(*given)
        return way, bool(wrong)

    def test_random_deeds(self):
        source = seeded(521)
        told = {}
        for book, pages in small_books(source, 150):
            if not pages:
                continue
            page = source.choice(pages)
            ledger, plain = Ledger(book, page), Plain(pages, page)
            for _ in range(40):
                way = self.step(source, ledger, plain)
                told[way] = told.get(way, 0) + 1
                exactly(self, ledger.deeds(), plain.deeds())
                exactly(self, ledger.page(), plain.page())
                self.assertIn(ledger.page(), pages)
                some = tuple(sorted(stamp for stamp in plain.kept if source.random() < 0.5))
                exactly(self, ledger.page_of(some), plain.page_of(some))
        self.assertEqual(len(told), 10)
        self.assertGreater(min(told.values()), 5)

    def test_any_stamps_come_by_their_order(self):
        ledger = Ledger(((3,), ()), (0,))
        for stamp, worth in zip(RIGHT_STAMPS[::-1], (1, 2, 0, 1)):
            ledger.put(stamp, ((0, worth),))
        exactly(self, [deed[0] for deed in ledger.deeds()], sorted(RIGHT_STAMPS))
        exactly(self, ledger.page(), (1,))
        ledger.withdraw(RIGHT_STAMPS[3])
        exactly(self, ledger.page(), (2,))
        exactly(self, ledger.page_of(()), (0,))

    def test_back_frees_the_stamp_and_refused_ones_keep_what_can_be_done_again(self):
        ledger = Ledger(DOOR, (0, 1))
        ledger.put((1, 0), ((0, 2),))
        ledger.back()
        refused(self, NoStamp, 0, ledger.withdraw, (1, 0))
        refused(self, CannotMeet, (0, 1), ledger.put, (1, 0), ((0, 1), (1, 0)))
        refused(self, BadStamp, -1, ledger.restore, None)
        ledger.again()
        exactly(self, ledger.page(), (2, 1))
        ledger.back()
        ledger.put((1, 0), ((0, 1),))
        refused(self, NothingAgain, 0, ledger.again)
        exactly(self, ledger.page(), (1, 1))
        ledger.back()
        refused(self, NothingBack, 0, ledger.back)
        exactly(self, ledger.deeds(), ())

    def test_200_deeds_and_no_end_of_going_back(self):
        for sizes in ((2,) * 24, (6,) * 24):
            book, page = planted_book(seeded(522), sizes, 50)
            ledger = Ledger(book, page)
            wish = ((3, page[3]), (17, page[17]))
            with Quick(self):
                for count in range(200):
                    ledger.put((count, 1), wish if count else ())
                    ledger.withdraw((count, 1))
                refused(self, HasStamp, 0, ledger.put, (7, 1), ())
                refused(self, Full, 200, ledger.put, (200, 1), wish)
                for _ in range(400):
                    ledger.back()
                exactly(self, ledger.deeds(), ())
                refused(self, NothingBack, 0, ledger.back)
                for _ in range(400):
                    ledger.again()
                exactly(self, len(ledger.deeds()), 200)
                exactly(self, ledger.page(), page)
                ledger.back()
                ledger.back()
                ledger.put((200, 1), wish)
                refused(self, Full, 200, ledger.put, (201, 1), wish)

    def test_wrong_deeds_in_their_order(self):
        ledger = Ledger(M, (0, 0, 1))
        ledger.put((1, 0), ((0, 1),))
        for stamp in WRONG_STAMPS:
            for wish in ((), None, ((0, 1), (1, 1))):
                refused(self, BadStamp, -1, ledger.put, stamp, wish)
            refused(self, BadStamp, -1, ledger.withdraw, stamp)
            refused(self, BadStamp, -1, ledger.restore, stamp)
        for wish, what in wrong_edits(M[0]):
            refused(self, BadEdit, what, ledger.put, (1, 0), wish)
        refused(self, CannotMeet, (0, 2), ledger.put, (1, 0), ((0, 1), (2, 1)))
        refused(self, HasStamp, 0, ledger.put, (1, 0), ((2, 0),))
        refused(self, NotOut, 0, ledger.restore, (1, 0))
        for call in (ledger.withdraw, ledger.restore):
            refused(self, NoStamp, 0, call, (0, 1))
        ledger.withdraw((1, 0))
        refused(self, AlreadyOut, 0, ledger.withdraw, (1, 0))
        refused(self, HasStamp, 0, ledger.put, (1, 0), ((2, 0),))
        refused(self, CannotMeet, (0, 0), Ledger(C, (0, 1)).put, (0, 0), ((0, 1),))
        exactly(self, ledger.deeds(), (((1, 0), ((0, 1),), False),))

    def test_wrong_stamps_of_pages(self):
        ledger = Ledger(M, (0, 0, 1))
        ledger.put((1, 0), ((0, 1),))
        ledger.put((2, 5), ((1, 1),))
        exactly(self, ledger.page_of(((1, 0), (2, 5))), (0, 1, 0))
        for stamps in [None, True, 0, "", "ab", (1, 0), ((2, 5), (1, 0)), ((1, 0), (1, 0)), ((1, 0), None),
                       ((0, 0), (True, 0)), nested(50, 0), ((1, 0),) * 40000] + [(stamp,) for stamp in WRONG_STAMPS]:
            refused(self, BadStamps, -1, ledger.page_of, stamps)
        refused(self, NoStamp, 0, ledger.page_of, ((0, 0), (1, 0)))
        refused(self, NoStamp, 1, ledger.page_of, ((1, 0), (1, 1), (9, 9)))
        refused(self, NoStamp, 2, ledger.page_of, ((1, 0), (2, 5), (2, 6)))

    def test_wrong_ledgers_in_their_order(self):
        for page in ((0, 0), None):
            for book, error, what in WRONG_BOOKS:
                refused(self, error, what, Ledger, book, page)
            for book in NO_PAGE:
                refused(self, NoPage, 0, Ledger, book, page)
        for page, what in wrong_pages(M[0]):
            refused(self, BadPage, what, Ledger, M, page)
        refused(self, NotLawful, 0, Ledger, M, (1, 1, 0))


if __name__ == "__main__":
    unittest.main()
