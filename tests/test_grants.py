"""[17] and [18]: grants, and runs of houses that write them."""

import unittest

from onlyforced.errors import (
    BadEdit, BadGrants, BadMany, BadPage, BadScript, BadSizes, NotLawful,
)
from onlyforced.grants import made_grants, run_grants, unsafe
from onlyforced.meek import stuck
from onlyforced.safe import breaks, safe
from tests.helpers import (
    E, Quick, T, all_edits, exactly, nested, random_edit, random_table, refused, seeded, tables_about,
    wrong_edits, wrong_pages,
)
from tests.test_tables import PAGES_200, WRONG_TABLES

# The grants of DOC.md [18].
G = ((((1, 0),), ((0, 0), (1, 0))), (((0, 1),), ((0, 1), (1, 1))))

WRONG_GRANTS = tuple((thing, -1) for thing in (
    None, True, 0, "ab", "", (), (G[0],) * 41, (None,) * 41, (None,) * 90000,
)) + tuple(((thing,), 0) for thing in (
    None, 0, "ab", (), G, (((1, 0),),), G[0] + ((),), ((), None), (None, ()), ((0, 1), (0, 1)),
    (((0, 1),), ()), (((0, 1),), ((0, 0),)), (((0, 1),), ((1, 1),)), (((0, 1), (1, 0)), ((0, 1),)),
    ((), ((2, 0),)), ((), ((0, 3),)), ((), ((1, 0), (0, 0))), (((0, True),), ((0, 1),)),
    (((0, 1),), ((0, True),)), (((False, 1),), ((0, 1),)), nested(49, ()), ((), nested(48, 0)),
)) + (
    ((G[0], G[1], None), 2), ((G[0], G[1], ((), ((0, 3),)), None), 2), ((G[0],) * 39 + (((0, 0), ()),), 39),
)

WRONG_MANY = (0, -1, 7, 10 ** 50, -(10 ** 50), True, False, None, "2", (), (2,), nested(50, 1))

# What is no row of a script for two houses and two grants.
WRONG_ROWS = (
    None, True, 0, "wish", "abc", (), ("wish",), ("wish", 0), ("wish", 0, 0, 0), ("meet", 0), ("meet", 0, 1, 0),
    ("Wish", 0, 0), ("send", 0, 0), (None, 0, 0), (0, 0, 0), (True, 0, 0), ((), 0, 0), (("wish",), 0, 0),
    ("wish", 2, 0), ("wish", -1, 0), ("wish", True, 0), ("wish", None, 0), ("wish", "0", 0), ("wish", (0,), 0),
    ("wish", 0, 2), ("wish", 0, -1), ("wish", 0, True), ("wish", 0, False), ("wish", 0, None), ("wish", 0, "0"),
    ("wish", 0, 10 ** 50), ("meet", 2, 0), ("meet", 0, 2), ("meet", -1, 0), ("meet", 0, -1), ("meet", False, 0),
    ("meet", 0, True), ("meet", 0, None), ("meet", None, 0), ("meet", 0, (1,)), nested(49, 0), ("meet", 0, nested(48, 0)),
)

WRONG_SCRIPTS = tuple((thing, -1) for thing in (
    None, True, 0, "", "ab", (("wish", 0, 0),) * 201, (None,) * 201, (None,) * 90000,
)) + tuple(((row,), 0) for row in WRONG_ROWS) + (
    ((("wish", 0, 0), ("meet", 1, 0), None), 2), ((("meet", 1, 1),) * 199 + (("meet", 1, 2),), 199),
    ((("wish", 0, 2), None), 0),
)


class GrantsTest(unittest.TestCase):
    def test_right_grants_come_back(self):
        for grants in (G, G[:1], G * 20, (((), ()),), ((((0, 1), (1, 0)), ((0, 1), (1, 0))),) * 40, (((), ((0, 2),)),)):
            exactly(self, made_grants((3, 2), grants), grants)

    def test_wrong_grants(self):
        for grants, what in WRONG_GRANTS:
            refused(self, BadGrants, what, made_grants, (3, 2), grants)
            refused(self, BadGrants, what, unsafe, T, grants)
            refused(self, BadGrants, what, run_grants, T, (0, 0), 2, grants, ())

    def test_each_wrong_edit_in_either_part(self):
        for edit, _ in wrong_edits((3, 2)):
            for ahead in (0, 1, 39):
                for grant in ((edit, edit), ((), edit), (edit, ((0, 1), (1, 1)))):
                    refused(self, BadGrants, ahead, made_grants, (3, 2), (G[0],) * ahead + (grant,))

    def test_the_wish_has_to_stand_in_the_edit(self):
        edits = all_edits((3, 2))
        for wish in edits:
            for edit in edits:
                grants = (G[0], (wish, edit))
                if set(wish) <= set(edit):
                    exactly(self, made_grants((3, 2), grants), grants)
                else:
                    refused(self, BadGrants, 1, made_grants, (3, 2), grants)

    def test_wrong_sizes_go_first(self):
        for sizes, what in ((None, -1), ((), -1), ((3, 7), 1), ((True, 2), 0), ((2,) * 25, -1)):
            for grants in (G, None, (None,)):
                refused(self, BadSizes, what, made_grants, sizes, grants)


class UnsafeTest(unittest.TestCase):
    def test_the_examples(self):
        exactly(self, unsafe(T, G), None)
        exactly(self, unsafe(T, ((((1, 0),), ((1, 0),)),)), (0, (1, 1)))

    def test_all_edits_of_tables(self):
        source = seeded(171)
        told = [0, 0]
        for table in [T, E] + list(tables_about(source, 80)):
            edits = all_edits(table[0])
            for edit in edits:
                page = breaks(table, edit)
                exactly(self, unsafe(table, ((edit, edit),)), None if page is None else (0, page))
            for _ in range(5):
                grants = tuple((edit[:1], edit) for edit in source.choices(edits, k=source.randint(1, 6)))
                wrong = [(at, breaks(table, edit)) for at, (_, edit) in enumerate(grants) if not safe(table, edit)]
                exactly(self, unsafe(table, grants), wrong[0] if wrong else None)
                told[bool(wrong)] += 1
        self.assertGreater(min(told), 20)

    def test_wishes_that_cannot_be_met_may_stand_there(self):
        exactly(self, unsafe(T, ((((0, 1), (1, 0)), ((0, 1), (1, 0))),)), (0, (0, 0)))
        exactly(self, unsafe(T, ((((0, 0),), ((0, 0),)),) + G * 19), None)

    def test_40_grants_over_200_pages(self):
        table = ((6, 6, 6), PAGES_200)
        grants = (((), ((0, 0),)),) * 39 + (((), ((0, 5),)),)
        with Quick(self):
            exactly(self, unsafe(table, grants), (39, (0, 3, 2)))

    def test_wrong_tables_go_first(self):
        for table, error, what in WRONG_TABLES:
            for grants in (G, None, (None,)):
                refused(self, error, what, unsafe, table, grants)


def run_told(page, many, grants, script):
    """[18], word by word: each house keeps a worth and a stamp for each setting."""
    rows = [{at: (worth, (0, 0)) for at, worth in enumerate(page)} for _ in range(many)]
    shown = [tuple(tuple(row[at][0] for at in range(len(page))) for row in rows)]
    for word, h, other in script:
        if word == "wish":
            count = max(stamp[0] for _, stamp in rows[h].values())
            for at, worth in grants[other][1]:
                rows[h][at] = (worth, (count + 1, h))
        else:
            for at in range(len(page)):
                if rows[other][at][1] > rows[h][at][1]:
                    rows[h][at] = rows[other][at]
        shown.append(tuple(tuple(row[at][0] for at in range(len(page))) for row in rows))
    return tuple(shown)


def random_script(source, many, grants, rows):
    script = []
    for _ in range(rows):
        h = source.randrange(many)
        if source.random() < 0.5:
            script.append(("wish", h, source.randrange(grants)))
        else:
            script.append(("meet", h, source.randrange(many)))
    return tuple(script)


class RunTest(unittest.TestCase):
    def test_the_example(self):
        exactly(self, run_grants(T, (0, 1), 2, G, (("wish", 0, 1), ("wish", 1, 0), ("meet", 0, 1))), (
            ((0, 1), (0, 1)), ((1, 1), (0, 1)), ((1, 1), (0, 0)), ((0, 0), (0, 0)),
        ))

    def test_no_rows_and_one_house(self):
        exactly(self, run_grants(T, (1, 1), 1, G, ()), (((1, 1),),))
        exactly(self, run_grants(T, (1, 1), 6, G, ()), (((1, 1),) * 6,))
        exactly(self, run_grants(T, (1, 1), 1, G, (("wish", 0, 0), ("meet", 0, 0))), (((1, 1),), ((0, 0),), ((0, 0),)))

    def test_which_stamp_is_newer(self):
        # Of two stamps of one count that of the greater house wins, in whatever order they meet.
        ones, twos = (("wish", 0, 1), ("wish", 1, 0)), (("wish", 1, 0), ("wish", 0, 1))
        for deeds in (ones, twos):
            for meets in ((("meet", 0, 1), ("meet", 1, 0)), (("meet", 1, 0), ("meet", 0, 1))):
                exactly(self, run_grants(T, (0, 1), 2, G, deeds + meets)[-1], ((0, 0), (0, 0)))
        # A greater count wins over a greater house.
        script = (("wish", 0, 0), ("wish", 0, 1), ("wish", 1, 0), ("meet", 0, 1), ("meet", 1, 0))
        exactly(self, run_grants(T, (0, 1), 2, G, script)[-1], ((1, 1), (1, 1)))
        # The count goes on from the greatest one in the row, not from that of the setting.
        grants = (((), ((0, 1),)), ((), ((1, 0),)), ((), ((1, 1),)))
        script = (("wish", 0, 0), ("wish", 0, 0), ("wish", 0, 1), ("wish", 1, 2), ("wish", 1, 2), ("meet", 1, 0))
        exactly(self, run_grants(((3, 2), ((0, 1),)), (0, 1), 2, grants, script)[-1], ((1, 0), (1, 0)))

    def test_nothing_looks_at_whether_a_page_is_lawful(self):
        grants = ((((1, 0),), ((1, 0),)),)
        exactly(self, run_grants(T, (1, 1), 2, grants, (("wish", 1, 0),)), (((1, 1), (1, 1)), ((1, 1), (1, 0))))

    def test_an_empty_edit_writes_nothing(self):
        grants = (((), ()), ((), ((0, 1), (1, 1))), ((), ((0, 2), (1, 1))))
        script = (("wish", 0, 0),) * 9 + (("wish", 0, 1), ("wish", 1, 2), ("meet", 0, 1))
        exactly(self, run_grants(T, (0, 1), 2, grants, script)[-1], ((2, 1), (2, 1)))

    def test_scripts_against_rows_kept_here(self):
        source = seeded(18)
        for _ in range(250):
            table = random_table(source)
            many = source.randint(1, 6)
            edits = [random_edit(source, table[0]) for _ in range(source.randint(1, 8))]
            grants = tuple((edit[source.randint(0, 2):], edit) for edit in edits)
            script = random_script(source, many, len(grants), source.randint(0, 40))
            page = source.choice(table[1])
            exactly(self, run_grants(table, page, many, grants, script), run_told(page, many, grants, script))

    def test_safe_grants_show_lawful_pages_in_each_run(self):
        source = seeded(19)
        for table in tables_about(source, 60):
            edits = [edit for edit in all_edits(table[0]) if stuck(table) is None and safe(table, edit)]
            if not edits:
                continue
            grants = tuple((edit, edit) for edit in source.choices(edits, k=10))
            script = random_script(source, 3, 10, 60)
            for pages in run_grants(table, table[1][0], 3, grants, script):
                self.assertTrue(all(page in table[1] for page in pages))

    def test_the_longest_run(self):
        source = seeded(20)
        table = ((6,) * 24, tuple(sorted({tuple(source.choices(range(6), k=24)) for _ in range(200)})))
        grants = tuple((edit[:3], edit) for edit in (random_edit(source, table[0]) for _ in range(40)))
        script = random_script(source, 6, 40, 200)
        with Quick(self):
            told = run_grants(table, table[1][0], 6, grants, script)
        self.assertEqual(len(told), 201)
        exactly(self, told, run_told(table[1][0], 6, grants, script))


class WrongRunTest(unittest.TestCase):
    def test_wrong_tables_go_first(self):
        for table, error, what in WRONG_TABLES:
            refused(self, error, what, run_grants, table, (0, 0), 2, G, ())
            refused(self, error, what, run_grants, table, None, None, None, None)

    def test_then_the_page_then_the_grants(self):
        for page, what in wrong_pages(T[0]):
            refused(self, BadPage, what, run_grants, T, page, 2, G, ())
            refused(self, BadPage, what, run_grants, T, page, 0, None, None)
        for grants, what in WRONG_GRANTS:
            refused(self, BadGrants, what, run_grants, T, (1, 0), 0, grants, None)

    def test_then_the_law_then_the_number_then_the_script(self):
        for page in ((1, 0), (2, 0)):
            for many in (2,) + WRONG_MANY:
                for script in ((), None):
                    refused(self, NotLawful, 0, run_grants, T, page, many, G, script)
        for many in WRONG_MANY:
            for script in ((), None, (None,), (("wish", 0, 0),)):
                refused(self, BadMany, many, run_grants, T, (0, 0), many, G, script)

    def test_wrong_scripts(self):
        for script, what in WRONG_SCRIPTS:
            refused(self, BadScript, what, run_grants, T, (0, 0), 2, G, script)
        for many in range(1, 7):
            for word in ("wish", "meet"):
                refused(self, BadScript, 1, run_grants, T, (0, 0), many, G, (("meet", 0, 0), (word, many, 0)))
            refused(self, BadScript, 0, run_grants, T, (0, 0), many, G, (("meet", 0, many),))
            script = (("wish", many - 1, 1), ("meet", many - 1, many - 1), ("meet", 0, many - 1))
            self.assertEqual(len(run_grants(T, (0, 0), many, G, script)), 4)
        refused(self, BadScript, 0, run_grants, T, (0, 0), 6, G, (("wish", 0, 2),))
        exactly(self, len(run_grants(T, (0, 0), 6, G, (("wish", 5, 1),) * 200)), 201)

    def test_a_wrong_edit_within_is_told_as_wrong_grants(self):
        with self.assertRaises(BadGrants):
            made_grants((3, 2), ((None, None),))
        self.assertFalse(issubclass(BadGrants, BadEdit))


if __name__ == "__main__":
    unittest.main()
