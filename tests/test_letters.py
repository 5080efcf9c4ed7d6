"""[39] and [40]: stamps, entries, rows and letters; and lots [1]."""

import unittest

from onlyforced.errors import BadLetter, BadLot, BadRow, BadSizes
from onlyforced.letters import made_letter, made_row
from tests.helpers import exactly, nested, random_sizes, refused, seeded, wrong_settings

SIZES = (3, 2, 6)

WRONG_SIZES = ((None, -1), ((), -1), ((3, 7), 1), ((True, 2), 0), ((2,) * 25, -1))

WRONG_STAMPS = (
    None, True, 0, "ab", (), (0,), (0, 0, 0), (-1, 0), (0, -1), (0, 100), (True, 0), (0, False), (None, 0),
    (0, None), ("0", 0), (0, "0"), ((0,), 0), (-(10 ** 50), 0), (0, 10 ** 50), nested(46, 0),
)

RIGHT_STAMPS = ((0, 0), (0, 99), (1, 0), (10 ** 900, 99))

# What is no lot over SIZES.
WRONG_LOTS = (
    None, True, 0, "", "ab", (), (3,), (-1,), (True,), (False, 1), (0, None), ("0",), (0, 0), (1, 0), (0, 2, 1),
    (0, 1, 3), ((0,),), (0, (1,)), (0,) * 90000, nested(49, 0),
) + tuple((thing,) for thing in wrong_settings(SIZES) if not isinstance(thing, tuple))


def wrong_entries(sizes, setting):
    """What is no entry of this setting of the sizes; it may be one of another setting."""
    yield from (None, True, 0, "abc", (), (setting,), (setting, 0), (setting, 0, (0, 0), 0), nested(47, 0))
    yield from ((setting, 0, stamp) for stamp in WRONG_STAMPS)
    for worth in (sizes[setting], -1, True, False, None, "0", (0,), 10 ** 50, nested(46, 0)):
        yield (setting, worth, (0, 0))
    for other in (len(sizes), -1, True, False, None, "0", (0,), 10 ** 50):
        yield (other, 0, (0, 0))


class RowTest(unittest.TestCase):
    def test_right_rows_come_back(self):
        for stamp in RIGHT_STAMPS:
            for lot in ((0,), (2,), (0, 2), (0, 1, 2)):
                row = tuple((at, SIZES[at] - 1, stamp) for at in lot)
                exactly(self, made_row(SIZES, lot, row), row)
        lot = tuple(range(24))
        row = tuple((at, 5, (at, at)) for at in lot)
        exactly(self, made_row((6,) * 24, lot, row), row)

    def test_what_is_no_tuple_of_as_many_parts(self):
        entry = (0, 0, (0, 0))
        for thing in (None, True, 0, "ab", (), (entry,), (entry, entry, entry), (None,) * 90000):
            refused(self, BadRow, -1, made_row, SIZES, (0, 2), thing)
        refused(self, BadRow, -1, made_row, SIZES, (2,), ())
        refused(self, BadRow, -1, made_row, SIZES, (2,), "a")

    def test_wrong_entries(self):
        lot = (0, 1, 2)
        right = tuple((at, 0, (0, 0)) for at in lot)
        for at in lot:
            for wrong in wrong_entries(SIZES, at):
                refused(self, BadRow, at, made_row, SIZES, lot, right[:at] + (wrong,) + right[at + 1:])
                refused(self, BadRow, at, made_row, SIZES, lot, right[:at] + (wrong,) * (3 - at))
            for other in lot:
                if other != at:
                    moved = right[:at] + (right[other],) + right[at + 1:]
                    refused(self, BadRow, at, made_row, SIZES, lot, moved)
        refused(self, BadRow, 0, made_row, SIZES, (1,), (right[0],))
        refused(self, BadRow, 1, made_row, SIZES, (0, 2), right[:2])

    def test_wrong_sizes_then_wrong_lots_go_first(self):
        for sizes, what in WRONG_SIZES:
            for lot in ((0,), None):
                refused(self, BadSizes, what, made_row, sizes, lot, ((0, 0, (0, 0)),))
        for lot in WRONG_LOTS:
            for row in (((0, 0, (0, 0)),), None, ()):
                refused(self, BadLot, -1, made_row, SIZES, lot, row)


class LetterTest(unittest.TestCase):
    def test_right_letters_come_back(self):
        entries = tuple((at, 1, (1, 4)) for at in range(3))
        for span in ((0,), (1, 2), (0, 1, 2)):
            exactly(self, made_letter(SIZES, (span, ())), (span, ()))
            some = tuple(entry for entry in entries if entry[0] in span)
            exactly(self, made_letter(SIZES, (span, some)), (span, some))
            exactly(self, made_letter(SIZES, (span, some[-1:])), (span, some[-1:]))
        for stamp in RIGHT_STAMPS:
            exactly(self, made_letter(SIZES, ((2,), ((2, 5, stamp),))), ((2,), ((2, 5, stamp),)))

    def test_what_is_no_pair_of_a_lot_and_a_tuple(self):
        entries = ((0, 0, (0, 0)),)
        for thing in (None, True, 0, "ab", (), ((0,),), ((0,), entries, ()), ((0,), None), ((0,), 0), ((0,), "a"),
                      ((0,), "ab"), (entries, (0,)), nested(50, 0)):
            refused(self, BadLetter, -1, made_letter, SIZES, thing)
        for lot in WRONG_LOTS:
            for some in ((), entries, (None,), None):
                refused(self, BadLetter, -1, made_letter, SIZES, (lot, some))

    def test_wrong_entries(self):
        span = (0, 1, 2)
        right = tuple((at, 0, (0, 0)) for at in span)
        for at in span:
            for wrong in wrong_entries(SIZES, at):
                refused(self, BadLetter, at, made_letter, SIZES, (span, right[:at] + (wrong,) + right[at + 1:]))
                refused(self, BadLetter, 0, made_letter, SIZES, (span, (wrong,)))
        for entries, what in (
            (right[::-1], 1), ((right[0], right[0]), 1), ((right[0], right[2], right[1]), 2),
            (right + (right[2],), 3), (right + (None,), 3), (right[:1] * 20000, 1),
        ):
            refused(self, BadLetter, what, made_letter, SIZES, (span, entries))

    def test_entries_out_of_the_span(self):
        right = tuple((at, 0, (0, 0)) for at in range(3))
        for span, entries, what in (
            ((0, 1), right, 2), ((0, 2), right, 1), ((1,), right, 0), ((1,), right[1:], 1), ((0, 2), right[1:2], 0),
        ):
            refused(self, BadLetter, what, made_letter, SIZES, (span, entries))

    def test_random_letters(self):
        source = seeded(40)
        for _ in range(300):
            sizes = random_sizes(source, 6)
            span = tuple(at for at in range(len(sizes)) if source.random() < 0.7) or (0,)
            entries = tuple(
                (at, source.randrange(sizes[at]), (source.randint(0, 9), source.randint(0, 99)))
                for at in span if source.random() < 0.6
            )
            exactly(self, made_letter(sizes, (span, entries)), (span, entries))
            if len(entries) == len(span):
                exactly(self, made_row(sizes, span, entries), entries)
            else:
                refused(self, BadRow, -1, made_row, sizes, span, entries)

    def test_wrong_sizes_go_first(self):
        for sizes, what in WRONG_SIZES:
            for letter in (((0,), ()), None):
                refused(self, BadSizes, what, made_letter, sizes, letter)


if __name__ == "__main__":
    unittest.main()
