"""[46] and [47]: worlds beside plain ones that are kept here, and scripts of them."""

import unittest

from onlyforced.errors import (
    BadEdit, BadHouse, BadLot, BadLots, BadManner, BadPage, BadScript, CannotMeet, Full, Narrow, NoLetter, NoPage,
    NotKept, NotLawful, NotTorn, Torn,
)
from onlyforced.fills import least_page
from onlyforced.worlds import World, run_script
from tests.helpers import (
    C, M, NO_PAGE, Quick, WRONG_BOOKS, exactly, nested, planted_book, refused, seeded, small_books, wrong_edits,
    wrong_pages,
)
from tests.test_forcing import edit_told
from tests.test_houses import DOOR, Plain, some_lot
from tests.test_letters import WRONG_LOTS
from tests.test_visits import visited

MANNERS = ("whole", "sparing", "torn")
BOTH = ((0, 1), (0, 1))

WRONG_MANNERS = (None, True, 0, "", "Whole", "whole ", "tor", ("whole",), (), nested(50, "torn"))

# What is no number from 0 up to 1.
WRONG_NUMBERS = (2, -1, 10 ** 50, -(10 ** 50), True, False, None, "0", (), (0,), nested(50, 0))


class PlainWorld:
    """A world as [46] tells it, of a book of which all pages are known."""

    def __init__(self, sizes, pages, page, lots, manner):
        self.pages, self.first, self.manner = pages, page, manner
        self.houses = [Plain(sizes, pages, lot, page, h, manner == "sparing") for h, lot in enumerate(lots)]
        self.letters, self.deeds, self.edits = [], [], {}
        self.heard = [set() for _ in lots]

    def wish(self, h, wish):
        number = len(self.letters)
        letter = self.houses[h].wish(wish)
        self.letters.append(letter)
        self.deeds.append({number})
        self.heard[h] |= {number}
        if letter[1]:
            self.edits[number] = (letter[1][0][2], edit_told(self.pages, wish))
        return number

    def send(self, h):
        self.letters.append(self.houses[h].letter())
        self.deeds.append(set(self.heard[h]))
        return len(self.letters) - 1

    def bring(self, letter, h):
        self.heard[h] |= self.deeds[letter]
        return self.houses[h].hear(self.letters[letter])

    def part(self, letter, h, lot):
        return self.houses[h].hear(self.letters[letter], lot)

    def page_heard(self, h):
        """The first page with the edits of all deeds heard laid over it, by rising stamps."""
        page = self.first
        for _, edit in sorted(self.edits[number] for number in self.heard[h] if number in self.edits):
            page = visited(page, edit)
        return page


class Beside:
    """A world beside a plain one."""

    def __init__(self, case, source, book, pages, lots, manner):
        self.case, self.source, self.pages, self.lots, self.manner = case, source, pages, lots, manner
        self.sizes = book[0]
        page = source.choice(pages)
        self.world = World(book, page, lots, manner)
        self.plain = PlainWorld(book[0], pages, page, lots, manner)
        self.rows = []
        self.not_held = 0

    def step(self):
        source = self.source
        h, way = source.randrange(len(self.lots)), source.random()
        number = source.randrange(len(self.plain.letters)) if self.plain.letters else None
        if way < 0.3 or number is None:
            page = source.choice(self.pages)
            row = ("wish", h, tuple((at, page[at]) for at in self.lots[h] if source.random() < 0.5))
        elif way < 0.45:
            row = ("send", h)
        elif self.manner == "torn" and way < 0.8:
            row = ("part", number, h, tuple(at for at in range(len(self.sizes)) if source.random() < 0.5))
        else:
            row = ("bring", number, h)
        call = getattr(self.world, row[0])
        if row[0] in ("bring", "part"):
            missing = [at for at in self.lots[h] if at not in self.plain.letters[number][0]]
            if missing:
                refused(self.case, Narrow, missing[0], call, *row[1:])
                return
        exactly(self.case, call(*row[1:]), getattr(self.plain, row[0])(*row[1:]))
        self.rows.append(row)

    def look(self):
        exactly(self.case, self.world.letters(), len(self.plain.letters))
        for number, letter in enumerate(self.plain.letters):
            exactly(self.case, self.world.letter(number), letter)
        for h, lot in enumerate(self.lots):
            shown = self.plain.houses[h].shown()
            exactly(self.case, self.world.shown(h), shown)
            exactly(self.case, self.world.row(h), self.plain.houses[h].row())
            held = any(all(page[at] == worth for at, worth in shown) for page in self.pages)
            self.case.assertIs(self.world.holds(h), held)
            self.not_held += not held
            if self.manner == "torn":
                refused(self.case, Torn, 0, self.world.heard, h)
            else:
                exactly(self.case, self.world.heard(h), tuple(sorted(self.plain.heard[h])))
            if self.manner == "whole":
                self.case.assertIs(held, True)
                page = self.plain.page_heard(h)
                exactly(self.case, shown, tuple((at, page[at]) for at in lot))


class RunsTest(unittest.TestCase):
    def runs(self, number, manner, all_settings):
        """Go through worlds of the manner; return how often a house did not hold."""
        source = seeded(number)
        not_held = 0
        for book, pages in small_books(source, 120):
            if not pages:
                continue
            settings = tuple(range(len(book[0])))
            many = source.randint(1, 8)
            lots = tuple(settings if all_settings else some_lot(source, len(settings)) for _ in range(many))
            beside = Beside(self, source, book, pages, lots, manner)
            for _ in range(25):
                beside.step()
                beside.look()
            not_held += beside.not_held
            shown = tuple(house.shown() for house in beside.plain.houses)
            page = beside.plain.first
            exactly(self, run_script(book, page, lots, manner, tuple(beside.rows)), shown)
        return not_held

    def test_whole_worlds_hold_at_each_moment(self):
        self.assertEqual(self.runs(461, "whole", True) + self.runs(462, "whole", False), 0)

    def test_sparing_worlds(self):
        self.assertGreater(self.runs(463, "sparing", True) + self.runs(464, "sparing", False), 20)

    def test_torn_worlds(self):
        self.assertGreater(self.runs(465, "torn", True) + self.runs(466, "torn", False), 20)


class WorldTest(unittest.TestCase):
    def test_the_example_of_houses(self):
        world = World(DOOR, (0, 1), BOTH, "whole")
        exactly(self, world.wish(0, ((0, 1),)), 0)
        exactly(self, world.wish(1, ((1, 0),)), 1)
        exactly(self, world.letter(0), ((0, 1), ((0, 1, (1, 0)), (1, 1, (1, 0)))))
        exactly(self, world.bring(0, 1), ())
        exactly(self, world.bring(1, 0), (0, 1))
        for h in (0, 1):
            exactly(self, world.shown(h), ((0, 0), (1, 0)))
            exactly(self, world.heard(h), (0, 1))
        world = World(DOOR, (0, 1), BOTH, "sparing")
        world.wish(0, ((0, 1),))
        world.wish(1, ((1, 0),))
        exactly(self, world.bring(0, 1), (0,))
        self.assertIs(world.holds(1), False)
        self.assertIs(world.holds(0), True)

    def test_what_is_heard_comes_with_letters_of_rows(self):
        world = World(M, (0, 0, 1), ((0, 1, 2), (0, 1, 2), (0,)), "whole")
        exactly(self, world.send(0), 0)
        exactly(self, world.wish(0, ()), 1)
        exactly(self, world.letter(1), ((0, 1, 2), ()))
        exactly(self, world.wish(0, ((0, 0),)), 2)
        exactly(self, world.send(0), 3)
        exactly(self, world.wish(0, ((1, 1),)), 4)
        exactly(self, world.heard(0), (1, 2, 4))
        # A letter of a row tells what was heard when it was made, even if nothing of it is taken.
        exactly(self, world.bring(0, 1), ())
        exactly(self, world.heard(1), ())
        exactly(self, world.bring(4, 1), (0, 1, 2))
        exactly(self, world.heard(1), (4,))
        exactly(self, world.bring(3, 1), ())
        exactly(self, world.heard(1), (1, 2, 4))
        exactly(self, world.send(1), 5)
        exactly(self, world.bring(5, 2), (0,))
        exactly(self, world.bring(5, 2), ())
        exactly(self, world.heard(2), (1, 2, 4))
        exactly(self, world.send(2), 6)
        refused(self, Narrow, 1, world.bring, 6, 0)
        exactly(self, world.bring(6, 2), ())

    def test_letters_never_late_twice_and_to_the_one_that_made_them(self):
        world = World(DOOR, (0, 1), BOTH, "whole")
        first = world.wish(0, ((0, 2),))
        world.wish(0, ((0, 1),))
        exactly(self, world.bring(first, 0), ())
        exactly(self, world.bring(first, 1), (0, 1))
        exactly(self, world.bring(first, 1), ())
        exactly(self, world.shown(1), ((0, 2), (1, 1)))
        exactly(self, world.heard(1), (0,))

    def test_a_refused_narrow_letter_is_not_heard(self):
        world = World(M, (0, 0, 1), ((0, 1, 2), (0,)), "whole")
        world.wish(1, ((0, 1),))
        world.send(1)
        refused(self, Narrow, 1, world.bring, 1, 0)
        exactly(self, world.heard(0), ())
        exactly(self, world.bring(0, 0), (0, 1, 2))
        exactly(self, world.heard(0), (0,))

    def test_parts(self):
        world = World(DOOR, (0, 1), BOTH, "torn")
        world.wish(0, ((0, 1),))
        exactly(self, world.part(0, 1, ()), ())
        exactly(self, world.part(0, 1, (0,)), (0,))
        exactly(self, world.shown(1), ((0, 1), (1, 1)))
        exactly(self, world.part(0, 1, (0, 1)), (1,))
        world.wish(1, ((1, 0),))
        exactly(self, world.part(1, 0, (1,)), (1,))
        self.assertIs(world.holds(0), False)
        exactly(self, world.bring(1, 0), (0,))
        self.assertIs(world.holds(0), True)

    def test_eight_houses_and_400_letters(self):
        for book in (((6,) * 24, ()), planted_book(seeded(467), (3,) * 24, 60)[0]):
            page = least_page(book, ())
            wish = ((0, page[0]),)
            with Quick(self):
                world = World(book, page, (tuple(range(24)),) * 8, "whole")
                for number in range(400):
                    exactly(self, world.wish(number % 8, wish), number)
                    world.bring(number, (number + 1) % 8)
            for h in range(8):
                wanted = tuple(number for number in range(400) if h in (number % 8, (number + 1) % 8))
                exactly(self, world.heard(h), wanted)
                row = world.row(h)
                refused(self, Full, 400, world.send, h)
                refused(self, Full, 400, world.wish, h, ())
                refused(self, Full, 400, world.wish, h, wish)
                exactly(self, world.row(h), row)
                exactly(self, world.heard(h), wanted)
            exactly(self, world.letters(), 400)
            # Letters that are there can be brought all the same.
            self.assertIn(0, world.bring(399, 3))

    def test_two_worlds_do_not_touch(self):
        one, two = (World(DOOR, (0, 1), BOTH, "whole") for _ in range(2))
        one.wish(0, ((0, 1),))
        exactly(self, two.letters(), 0)
        exactly(self, two.shown(0), ((0, 0), (1, 1)))
        refused(self, NoLetter, 0, two.bring, 0, 0)


class WrongWorldsTest(unittest.TestCase):
    def build(self, error, what, *given):
        """Expect a world, and a script of one, to be refused."""
        refused(self, error, what, World, *given)
        for script in ((), None, (None,)):
            refused(self, error, what, run_script, *given, script)

    def test_wrong_books_and_books_without_pages_go_first(self):
        for page, lots, manner in (((0, 0), BOTH, "whole"), (None, None, None)):
            for book, error, what in WRONG_BOOKS:
                self.build(error, what, book, page, lots, manner)
            for book in NO_PAGE:
                self.build(NoPage, 0, book, page, lots, manner)

    def test_then_the_page_the_lots_and_the_manner(self):
        for page, what in wrong_pages(M[0]):
            self.build(BadPage, what, M, page, BOTH, "whole")
            self.build(BadPage, what, M, page, None, None)
        self.build(NotLawful, 0, M, (1, 1, 0), BOTH, "whole")
        self.build(NotLawful, 0, M, (1, 1, 0), None, None)
        for lots in (None, True, 0, "", "ab", (), ((0,),) * 9, (None,) * 9, (None,) * 90000):
            self.build(BadLots, -1, M, (0, 0, 0), lots, "whole")
            self.build(BadLots, -1, M, (0, 0, 0), lots, None)
        book = ((3, 2, 6), ())
        for lot in WRONG_LOTS:
            self.build(BadLots, 0, book, (0, 0, 0), (lot,), "whole")
            self.build(BadLots, 2, book, (0, 0, 0), ((0,), (0, 1, 2), lot, None), None)
        self.build(BadLots, 7, M, (0, 0, 0), ((0,),) * 7 + ((),), "whole")
        for manner in WRONG_MANNERS:
            self.build(BadManner, manner, M, (0, 0, 0), BOTH, manner)

    def test_houses_and_letters_that_are_not_there(self):
        for manner in MANNERS:
            world = World(DOOR, (0, 1), BOTH, manner)
            world.wish(0, ((0, 1),))
            for h in WRONG_NUMBERS:
                for call in (world.send, world.shown, world.row, world.holds, world.heard):
                    refused(self, BadHouse, h, call, h)
                refused(self, BadHouse, h, world.wish, h, None)
                refused(self, BadHouse, h, world.bring, 0, h)
            for number in (1,) + WRONG_NUMBERS:
                refused(self, NoLetter, number, world.letter, number)
                refused(self, NoLetter, number, world.bring, number, None)
            exactly(self, world.letters(), 1)

    def test_wishes_as_the_house_refuses_them(self):
        world = World(M, (0, 0, 1), ((0, 2), (0, 1, 2)), "whole")
        for wish, what in wrong_edits(M[0]):
            refused(self, BadEdit, what, world.wish, 1, wish)
        refused(self, NotKept, 1, world.wish, 0, ((0, 1), (1, 1), (2, 1)))
        refused(self, CannotMeet, (0, 2), world.wish, 0, ((0, 1), (2, 1)))
        refused(self, CannotMeet, (0, 0), World(C, (0, 1), BOTH, "torn").wish, 1, ((0, 1),))
        exactly(self, world.letters(), 0)
        exactly(self, world.row(1), ((0, 0, (0, 0)), (1, 0, (0, 0)), (2, 1, (0, 0))))
        for _ in range(400):
            world.send(0)
        # What the house refuses goes ahead of a world that is full.
        refused(self, BadEdit, -1, world.wish, 0, None)
        refused(self, NotKept, 1, world.wish, 0, ((1, 0),))
        refused(self, CannotMeet, (0, 2), world.wish, 0, ((0, 1), (2, 1)))
        refused(self, BadHouse, 2, world.send, 2)
        refused(self, Full, 400, world.wish, 0, ((0, 1),))

    def test_wrong_parts_in_their_order(self):
        for manner in ("whole", "sparing"):
            world = World(DOOR, (0, 1), BOTH, manner)
            world.send(0)
            for given in ((0, 1, (0,)), (None, None, None), (9, 9, 9)):
                refused(self, NotTorn, 0, world.part, *given)
        world = World(DOOR, (0, 1), BOTH + ((0,),), "torn")
        world.wish(0, ((0, 1),))
        world.send(2)
        for number in (2, -1, True, None):
            refused(self, NoLetter, number, world.part, number, None, None)
        for h in (3, -1, True, None):
            refused(self, BadHouse, h, world.part, 0, h, None)
        for lot in (None, True, 0, "", (2,), (-1,), (True,), (0, 0), (1, 0), (None,), ((0,),)):
            refused(self, BadLot, -1, world.part, 0, 1, lot)
            refused(self, BadLot, -1, world.part, 1, 1, lot)
        refused(self, Narrow, 1, world.part, 1, 1, ())
        refused(self, Narrow, 1, world.part, 1, 1, (0, 1))
        exactly(self, world.shown(1), ((0, 0), (1, 1)))

    def test_what_was_heard_is_not_told_in_torn_worlds(self):
        world = World(DOOR, (0, 1), BOTH, "torn")
        refused(self, Torn, 0, world.heard, 0)
        refused(self, BadHouse, 2, world.heard, 2)


class ScriptsTest(unittest.TestCase):
    def test_the_example(self):
        script = (("wish", 0, ((0, 1),)), ("wish", 1, ((1, 0),)), ("bring", 0, 1))
        given = (DOOR, (0, 1), BOTH)
        exactly(self, run_script(*given, "whole", ()), (((0, 0), (1, 1)),) * 2)
        exactly(self, run_script(*given, "whole", script), (((0, 1), (1, 1)), ((0, 0), (1, 0))))
        exactly(self, run_script(*given, "sparing", script), (((0, 1), (1, 1)), ((0, 1), (1, 0))))
        script = script[:1] + (("send", 0), ("part", 1, 1, (1,)))
        exactly(self, run_script(*given, "torn", script), (((0, 1), (1, 1)), ((0, 0), (1, 1))))
        refused(self, NotTorn, 0, run_script, *given, "whole", script)

    def test_wrong_scripts(self):
        given = (DOOR, (0, 1), BOTH, "whole")
        for script in (None, True, 0, "", "ab", (("send", 0),) * 201, (None,) * 90000):
            refused(self, BadScript, -1, run_script, *given, script)
        right = (("wish", 0, ()), ("send", 1), ("bring", 0, 1), ("part", 0, 0, ()))
        for row in (
            None, True, 0, "", "send", (), ("send",), ("meet",), ("send", 0, 0), ("wish", 0), ("wish", 0, (), ()),
            ("bring", 0), ("bring", 0, 0, 0), ("part", 0, 0), ("part", 0, 0, (), ()), ("meet", 0, 0), ("Wish", 0, ()), (None, 0),
            (("send",), 0), (0, 0), (nested(48, "send"), 0), nested(49, 0),
        ):
            for ahead in ((), right):
                refused(self, BadScript, len(ahead), run_script, *given, ahead + (row,))
                refused(self, BadScript, len(ahead), run_script, *given, ahead + (row, None))

    def test_the_form_of_all_rows_goes_ahead_of_what_the_first_one_does(self):
        given = (DOOR, (0, 1), BOTH, "whole")
        for row, error, what in (
            (("wish", 2, None), BadHouse, 2), (("wish", 0, None), BadEdit, -1), (("send", None), BadHouse, None),
            (("bring", 1, 0), NoLetter, 1), (("bring", 0, True), BadHouse, True), (("part", 9, 9, 9), NotTorn, 0),
            (("wish", 0, ((0, 1), (1, 0))), CannotMeet, (0, 1)),
        ):
            script = (("send", 0), row, ("send", 9))
            refused(self, error, what, run_script, *given, script)
            refused(self, BadScript, 3, run_script, *given, script + (None,))

    def test_200_rows(self):
        script = (("wish", 0, ((0, 1),)), ("bring", 0, 1)) * 100
        with Quick(self):
            exactly(self, run_script(DOOR, (0, 1), BOTH, "whole", script), (((0, 1), (1, 1)),) * 2)


if __name__ == "__main__":
    unittest.main()
