"""[64] to [66]: pages and edits read and told."""

import unittest

from onlyforced.errors import BadEdit, BadNames, BadPage, BadText, NoName, NoWorth, Twice
from onlyforced.texts import print_edit, print_page, read_edit, read_page
from tests.helpers import (
    all_edits, all_pages, exactly, nested, random_edit, random_page, refused, seeded, wrong_edits, wrong_pages,
)
from tests.plain_reading import Wrong, plain_edit, plain_page
from tests.test_lawtexts import ERRORS, wrong_names
from tests.texts_about import NAMES, random_names, sizes_told, spaced, spoilt_words


def beside(case, call, plain, names, text):
    """Expect a text to be read as the plain reading reads it; return whether it is read."""
    try:
        wanted = plain(names, text)
    except Wrong as wrong:
        error, what = wrong.told
        refused(case, ERRORS[error], what, call, names, text)
        return False
    exactly(case, call(names, text), wanted)
    return True


class PagesTest(unittest.TestCase):
    def test_the_examples(self):
        exactly(self, read_page(NAMES, "open on"), (1, 1))
        exactly(self, print_page(NAMES, (1, 1)), "open on")
        refused(self, BadText, 4, read_page, NAMES, "open")
        refused(self, NoWorth, 0, read_page, NAMES, "on open")
        refused(self, BadText, 8, read_page, NAMES, "open on on")

    def test_other_texts(self):
        exactly(self, read_page(NAMES, "  shut   off "), (2, 0))
        for text, error, what in (
            ("", BadText, 0), ("   ", BadText, 3), ("open, on", BadText, 4), ("open blue", NoWorth, 5), ("own on", BadText, 0),
            ("open on ;", BadText, 8), ("0 on", BadText, 0), ("open On", BadText, 5), ("-", BadText, 0), ("open on\n", BadText, 7),
            ("open state", NoWorth, 5),
        ):
            refused(self, error, what, read_page, NAMES, text)

    def test_there_and_back(self):
        for page in all_pages((3, 2)):
            exactly(self, read_page(NAMES, print_page(NAMES, page)), page)

    def test_wrong_pages(self):
        for page, what in wrong_pages((3, 2)):
            refused(self, BadPage, what, print_page, NAMES, page)


class EditsTest(unittest.TestCase):
    def test_the_examples(self):
        exactly(self, read_edit(NAMES, "lock on, state open"), ((0, 1), (1, 1)))
        exactly(self, print_edit(NAMES, ((0, 1), (1, 1))), "state open , lock on")
        refused(self, Twice, 9, read_edit, NAMES, "lock on, lock off")
        refused(self, BadText, 0, read_edit, NAMES, "")

    def test_other_texts(self):
        exactly(self, read_edit(NAMES, " - "), ())
        exactly(self, print_edit(NAMES, ()), "-")
        for text, error, what in (
            ("   ", BadText, 3), ("- -", BadText, 2), ("- state open", BadText, 2), ("state", BadText, 5), ("state open,", BadText, 11),
            ("state open lock on", BadText, 11), ("state on", NoWorth, 6), ("open state", NoName, 0), ("state open, gone", NoName, 12),
            ("state open, -", BadText, 12), ("lock on, lock blue", Twice, 9), ("state, open", BadText, 5), (", state open", BadText, 0),
            ("state then", BadText, 6), ("state open : lock on", BadText, 11), ("lock on, then on", BadText, 9),
        ):
            refused(self, error, what, read_edit, NAMES, text)

    def test_there_and_back(self):
        for edit in all_edits((3, 2)):
            exactly(self, read_edit(NAMES, print_edit(NAMES, edit)), edit)

    def test_wrong_edits(self):
        for edit, what in wrong_edits((3, 2)):
            refused(self, BadEdit, what, print_edit, NAMES, edit)


class BothTest(unittest.TestCase):
    def test_wrong_names_go_first_then_what_is_no_text(self):
        for names, what in wrong_names():
            for call in (read_page, read_edit):
                refused(self, BadNames, what, call, names, "b")
                refused(self, BadNames, what, call, names, None)
            for call in (print_page, print_edit):
                refused(self, BadNames, what, call, names, (0,))
                refused(self, BadNames, what, call, names, None)
        for call in (read_page, read_edit):
            for thing in (None, True, 0, (), ("open on",), nested(50, "a")):
                refused(self, BadText, -1, call, NAMES, thing)
            refused(self, BadText, 20000, call, NAMES, " " * 20001)
            refused(self, BadText, 20000, call, NAMES, " " * 20000)

    def test_20000_signs(self):
        exactly(self, read_page(NAMES, "open on" + " " * 19993), (1, 1))
        refused(self, BadText, 20000, read_page, NAMES, "open on" + " " * 19994)
        exactly(self, read_edit(NAMES, " " * 19990 + "state open"), ((0, 1),))
        refused(self, BadText, 20000, read_edit, NAMES, " " * 19991 + "state open")

    def test_texts_by_chance(self):
        source = seeded(641)
        told = {}
        for _ in range(1500):
            names = random_names(source)
            page, edit = random_page(source, sizes_told(names)), random_edit(source, sizes_told(names))
            for call, plain, tell, thing in (
                (read_page, plain_page, print_page, page), (read_edit, plain_edit, print_edit, edit),
            ):
                text = tell(names, thing)
                exactly(self, call(names, text), thing)
                words = text.split(" ")
                self.assertNotIn("", words)
                self.assertIs(beside(self, call, plain, names, spaced(source, words)), True)
                for _ in range(3):
                    right = beside(self, call, plain, names, spaced(source, spoilt_words(source, words, source.randint(1, 2))))
                    told[call, right] = told.get((call, right), 0) + 1
        self.assertEqual(len(told), 4)
        self.assertGreater(min(told.values()), 200)

    def test_edits_in_any_order(self):
        source = seeded(651)
        for _ in range(300):
            names = random_names(source)
            edit = random_edit(source, sizes_told(names))
            parts = [f"{names[at][0]} {names[at][1][worth]}" for at, worth in edit]
            source.shuffle(parts)
            exactly(self, read_edit(names, ", ".join(parts) or "-"), edit)


if __name__ == "__main__":
    unittest.main()
