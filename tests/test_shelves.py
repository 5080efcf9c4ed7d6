"""[45]: shelves, cut off between any two writes."""

import unittest

from onlyforced.errors import BadRow, BadWrite
from onlyforced.shelves import Shelf
from tests.helpers import exactly, nested, refused, seeded
from tests.test_letters import RIGHT_STAMPS, WRONG_STAMPS, wrong_entries

ROW = ((1, 0, (0, 0)), (4, 5, (2, 7)), (23, 3, (10 ** 40, 99)))
NEW = ((1, 2, (3, 0)), (4, 5, (2, 7)), (23, 0, (11 ** 40, 1)))
ALL = (6,) * 24


def random_row(source, settings):
    return tuple((at, source.randrange(6), (source.randrange(9), source.randrange(100))) for at in settings)


class ShelfTest(unittest.TestCase):
    def test_a_new_shelf(self):
        for row in (ROW, ROW[:1], tuple((at, at // 4, (at, at)) for at in range(24))):
            shelf = Shelf(row)
            exactly(self, shelf.told(), row)
            exactly(self, shelf.places(), (0, row, (None,) * len(row)))
        for stamp in RIGHT_STAMPS:
            exactly(self, Shelf(((0, 5, stamp),)).told(), ((0, 5, stamp),))

    def test_steps_write_nothing(self):
        shelf = Shelf(ROW)
        wanted = (("cell", 1, 0, NEW[0]), ("cell", 1, 1, NEW[1]), ("cell", 1, 2, NEW[2]), ("mark", 1))
        for _ in range(2):
            exactly(self, shelf.steps(NEW), wanted)
            exactly(self, shelf.places(), (0, ROW, (None,) * 3))
        exactly(self, shelf.write(("mark", 1)), None)
        exactly(self, shelf.steps(ROW)[0], ("cell", 0, 0, ROW[0]))
        exactly(self, shelf.steps(ROW)[3], ("mark", 0))

    def test_cut_off_between_any_two_writes(self):
        source = seeded(451)
        for _ in range(60):
            settings = sorted(source.sample(range(24), source.randint(1, 24)))
            shelf = Shelf(random_row(source, settings))
            for _ in range(8):
                before, new = shelf.told(), random_row(source, settings)
                steps = shelf.steps(new)
                self.assertEqual(len(steps), len(settings) + 1)
                done = source.randint(0, len(steps))
                for write in steps[:done]:
                    shelf.write(write)
                exactly(self, shelf.told(), new if done == len(steps) else before)

    def test_single_writes(self):
        shelf = Shelf(ROW)
        shelf.write(("cell", 0, 1, (4, 1, (9, 9))))
        exactly(self, shelf.told(), (ROW[0], (4, 1, (9, 9)), ROW[2]))
        shelf.write(("cell", 1, 2, (23, 0, (0, 0))))
        shelf.write(("mark", 1))
        exactly(self, shelf.told(), (None, None, (23, 0, (0, 0))))
        exactly(self, shelf.places(), (1, (ROW[0], (4, 1, (9, 9)), ROW[2]), (None, None, (23, 0, (0, 0)))))
        shelf.write(("mark", 0))
        exactly(self, shelf.places()[0], 0)

    def test_no_shelf_changes_another_one_or_its_row(self):
        row = ROW
        one, two = Shelf(row), Shelf(row)
        one.write(("cell", 0, 0, NEW[0]))
        exactly(self, two.told(), ROW)
        exactly(self, row, ROW)

    def test_wrong_rows(self):
        for thing in (None, True, 0, "", "ab", ()):
            refused(self, BadRow, -1, Shelf, thing)
        for at in range(3):
            for wrong in wrong_entries(ALL, ROW[at][0]):
                refused(self, BadRow, at, Shelf, ROW[:at] + (wrong,) + ROW[at + 1:])
                refused(self, BadRow, at, Shelf, ROW[:at] + (wrong,) * 3)
        for stamp in WRONG_STAMPS:
            refused(self, BadRow, 1, Shelf, (ROW[0], (2, 0, stamp)))
        refused(self, BadRow, 1, Shelf, (ROW[1], ROW[0]))
        refused(self, BadRow, 2, Shelf, (ROW[0], ROW[1], ROW[1]))
        refused(self, BadRow, 0, Shelf, ((24, 0, (0, 0)),))
        refused(self, BadRow, 0, Shelf, ((0, 6, (0, 0)),))
        row = tuple((at, 0, (0, 0)) for at in range(24))
        refused(self, BadRow, 24, Shelf, row + ((23, 0, (0, 0)),))
        refused(self, BadRow, 0, Shelf, (None,) * 90000)

    def test_wrong_rows_for_steps(self):
        shelf = Shelf(ROW)
        for thing in (None, (), 0, "ab", NEW[:2], NEW + ((23, 0, (0, 0)),), NEW[::-1], ((0, 0, (0, 0)),) + NEW[1:],
                      NEW[:2] + ((22, 0, (0, 0)),), NEW[:2] + ((23, 6, (0, 0)),), (None,) * 90000, nested(50, 0)):
            refused(self, BadRow, -1, shelf.steps, thing)
        for at in range(3):
            for wrong in wrong_entries(ALL, ROW[at][0]):
                refused(self, BadRow, -1, shelf.steps, NEW[:at] + (wrong,) + NEW[at + 1:])

    def test_wrong_writes(self):
        shelf = Shelf(ROW)
        before = shelf.places()
        entry = NEW[0]
        wrong = [None, True, 0, "ab", (), ("mark",), ("mark", 0, 0), ("cell", 0, 0), ("cell", 0, 0, entry, 0),
                 ("cell", 0, 1, entry), ("cell", 0, 0, NEW[1]), ("marks", 0), (None, 0), (0, 0), ("cell", 0),
                 ("mark", 0, 0, entry), (("mark",), 0), nested(50, 0), (nested(49, 0), 1)]
        for place in (2, -1, True, False, None, "0", (0,), 10 ** 50):
            wrong += [("mark", place), ("cell", place, 0, entry)]
        for index in (3, -1, True, False, None, "0", (0,), 10 ** 50):
            wrong.append(("cell", 0, index, entry))
        wrong += [("cell", 1, 0, part) for part in wrong_entries(ALL, 1)]
        for write in wrong:
            refused(self, BadWrite, 0, shelf.write, write)
        exactly(self, shelf.places(), before)


if __name__ == "__main__":
    unittest.main()
