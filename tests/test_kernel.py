"""[54] to [56]: the kernel's judges, beside what the points say word by word, and on whatever there is."""

import itertools
import pathlib
import re
import unittest

from onlyforced.books import keeps
from onlyforced.closing import tight
from onlyforced.hulls import hull, hull_table, made_by
from onlyforced.judge import three, why, writable
from onlyforced.kernel import (
    book_right, both_right, made_right, none_right, out_right, stuck_right, three_right, unsafe_right,
)
from onlyforced.meek import stuck
from onlyforced.pages import move
from onlyforced.papers import none_paper, out_paper
from onlyforced.safe import breaks
from tests.helpers import (
    C, E, M, N, Quick, T, THINGS, WRONG_CELLS, all_edits, all_pages, nested,
    random_page, random_saying, random_table, random_thing, seeded, small_books, spoilt,
    tables_about, tight_told,
)
from tests.test_forcing import agreed_told
from tests.test_great import law_of_193_to_200
from tests.test_houses import DOOR
from tests.test_papers import cells_of, out_first
from tests.test_visits import visited

T_BOOK = ((3, 2), (("own", 0, (0, 1, 2)), ("own", 1, (0, 1)), ("either", 0, 0, 1, 1)))

JUDGES = {
    three_right: 4, stuck_right: 3, unsafe_right: 3, made_right: 3, book_right: 2, out_right: 4, none_right: 2,
    both_right: 4,
}


def steps_told(book, steps):
    """The two pairs that are out behind the steps, None if one of them is no right step."""
    sizes, _ = book
    out = out_first(book)
    for step in steps:
        if not (isinstance(step, tuple) and len(step) == 5 and all(type(part) is int for part in step)):
            return None
        i, a, j, b, k = step
        settings = range(len(sizes))
        if not (i in settings and j in settings and k in settings and a in range(sizes[i]) and b in range(sizes[j])):
            return None
        if not all(((i, a), (k, c)) in out or ((k, c), (j, b)) in out for c in range(sizes[k])):
            return None
        out |= {((i, a), (j, b)), ((j, b), (i, a))}
    return out


class TablesTest(unittest.TestCase):
    def test_the_examples(self):
        self.assertIs(three_right(E, *E[1][:3]), True)
        self.assertIs(stuck_right(E, (1, 0, 1), ((0, 0),)), True)
        self.assertIs(unsafe_right(E, ((0, 0),), (1, 0, 1)), True)
        self.assertIs(made_right(E, (0, 0, 1), (((0, 0, 0), (0, 1, 1), (1, 0, 1)),)), True)

    def test_three_right(self):
        told = [0, 0]
        for table in tables_about(seeded(541), 60):
            some = all_pages(table[0])[:12]
            for x, y, z in itertools.product(some, repeat=3):
                wanted = {x, y, z} <= set(table[1]) and move(x, y, z) not in table[1]
                self.assertIs(three_right(table, x, y, z), wanted)
                told[wanted] += 1
            if not writable(table):
                self.assertIs(three_right(table, *three(table)), True)
        self.assertGreater(min(told), 100)

    def test_stuck_right_and_unsafe_right(self):
        told = [[0, 0], [0, 0]]
        for table in tables_about(seeded(542), 120):
            for page in all_pages(table[0])[:20]:
                for wish in all_edits(table[0])[:40]:
                    agreed = agreed_told(table[1], wish)
                    wanted = page in table[1] and agreed is not None and visited(page, agreed) not in table[1]
                    self.assertIs(stuck_right(table, page, wish), wanted)
                    told[0][wanted] += 1
                    wanted = page in table[1] and visited(page, wish) not in table[1]
                    self.assertIs(unsafe_right(table, wish, page), wanted)
                    told[1][wanted] += 1
            for wish in all_edits(table[0])[:40]:
                page = breaks(table, wish)
                self.assertIs(page is not None and unsafe_right(table, wish, page), page is not None)
            found = stuck(table)
            if found is not None:
                self.assertIs(stuck_right(table, *found), True)
        self.assertGreater(min(told[0] + told[1]), 100)

    def test_made_right(self):
        told = [0, 0]
        source = seeded(543)
        for table in tables_about(source, 120):
            wanted = hull_table(table)[1]
            for page in all_pages(table[0])[:30]:
                rows = made_by(table, page)
                self.assertIs(rows is not None and made_right(table, page, rows), page in wanted)
                self.assertIs(made_right(table, page, ()), page in table[1])
                if rows:
                    self.assertIs(made_right(table, page, rows[:-1]), move(*rows[-1]) == page and len(rows) > 1
                                  and move(*rows[-2]) == page)
                    self.assertIs(made_right(table, page, rows + ((page, page, page),)), True)
                    other = random_page(source, table[0])
                    self.assertIs(made_right(table, other, rows), other == page)
                # Rows of any pages, which need not be there.
                any_rows = tuple(tuple(random_page(source, table[0]) for _ in range(3)) for _ in range(2))
                there, right = set(table[1]), True
                for row in any_rows:
                    right = right and set(row) <= there
                    there.add(move(*row))
                self.assertIs(made_right(table, move(*any_rows[-1]), any_rows), right)
                told[right] += 1
        self.assertGreater(min(told), 20)

    def test_a_page_of_the_table_can_have_rows(self):
        x = T[1][2]
        self.assertIs(made_right(T, x, ((x, x, x),)), True)
        self.assertIs(made_right(T, x, ((x, x, T[1][0]), (x, x, x))), True)
        self.assertIs(made_right(T, x, ((x, x, x), (T[1][0],) * 3)), False)
        self.assertIs(made_right(T, x, ((x, x),)), False)
        self.assertIs(made_right(T, x, ((x, x, x, x),)), False)
        self.assertIs(made_right(T, x, (x, x, x)), False)


class BookRightTest(unittest.TestCase):
    def test_the_example(self):
        self.assertIs(book_right(T, T_BOOK), True)
        self.assertIs(book_right(T, DOOR), False)

    def judge(self, source, table):
        sizes, pages = table
        wanted = tight_told(sizes, pages) if writable(table) else None
        # Other books with just the table's pages, or with more, or with less.
        books = [hull(table), why(table)[1], (sizes, ())]
        for base in (wanted, hull(table)):
            if base is None:
                continue
            sayings = list(base[1])
            books += [base, (sizes, base[1][::-1]), (sizes, base[1] + base[1][-1:]), (sizes, base[1][1:])]
            books += [(sizes, tuple(sayings[:at] + sayings[at + 1:])) for at in range(len(sayings))]
            for _ in range(4):
                at = source.randrange(len(sayings) + 1)
                books.append((sizes, tuple(sayings[:at] + [random_saying(source, sizes)] + sayings[at:])))
                books.append((sizes, tuple(sayings[:at] + [random_saying(source, sizes)] + sayings[at + 1:])))
                books.append(spoilt(source, base))
            books.append((sizes + (2,), base[1] + (("own", len(sizes), (0, 1)),)))
        for book in books:
            # By their texts: True is not 1 here.
            self.assertIs(book_right(table, book), wanted is not None and repr(book) == repr(wanted))
        return wanted is not None

    def test_tables(self):
        source = seeded(551)
        told = [0, 0]
        for table in tables_about(source, 150):
            told[self.judge(source, table)] += 1
        for _ in range(150):
            told[self.judge(source, random_table(source))] += 1
        self.assertGreater(min(told), 30)

    def test_pages_of_books(self):
        source = seeded(552)
        for book, pages in small_books(source, 200):
            if 1 <= len(pages) <= 200:
                self.assertIs(book_right((book[0], tuple(pages)), tight(book)), True)
                self.judge(source, (book[0], tuple(pages)))

    def test_great_tables(self):
        source = seeded(553)
        for most in (5, 8, 12, 24):
            sizes, pages = law_of_193_to_200(source, most)
            book = tight_told(sizes, pages)
            with Quick(self):
                self.assertIs(book_right((sizes, pages), book), True)
                self.assertIs(book_right((sizes, pages[1:]), book), False)
            gone = source.choice(pages)
            less = tuple(page for page in pages if page != gone)
            with Quick(self):
                self.assertIs(book_right((sizes, less), book), False)
            self.assertIs(book_right((sizes, less), tight_told(sizes, pages)), False)
        pages = set()
        while len(pages) < 200:
            pages.add(random_page(source, (6,) * 24))
        table = ((6,) * 24, tuple(sorted(pages)))
        with Quick(self):
            self.assertIs(book_right(table, hull(table)), False)


class PapersTest(unittest.TestCase):
    def test_the_examples(self):
        step = ((0, 1, 0, 1, 1),)
        self.assertIs(out_right(C, step, (0, 1), (0, 1)), True)
        self.assertIs(none_right(C, step), False)
        self.assertIs(both_right(DOOR, (1, 1), (0, 1), (1, 1)), True)

    def test_papers_are_right(self):
        for book, pages in small_books(seeded(561), 150):
            cells = cells_of(book[0])
            for one, two in itertools.product(cells, repeat=2):
                steps = out_paper(book, one, two)
                met = [page for page in pages if page[one[0]] == one[1] and page[two[0]] == two[1]]
                self.assertIs(steps is None, bool(met))
                if steps is not None:
                    self.assertIs(out_right(book, steps, one, two), True)
                    self.assertIs(out_right(book, steps, two, one), True)
            if not pages:
                self.assertIs(none_right(book, none_paper(book)), True)

    def test_both_right(self):
        for book, pages in small_books(seeded(562), 60):
            for page in all_pages(book[0])[:20]:
                for one, two in itertools.product(cells_of(book[0]), repeat=2):
                    wanted = page in pages and page[one[0]] == one[1] and page[two[0]] == two[1]
                    self.assertIs(both_right(book, page, one, two), wanted)

    def some_steps(self, source, book):
        """Steps of which more are right than chance would make them, now and then a spoilt one."""
        cells, steps = cells_of(book[0]), ()
        for _ in range(source.randint(0, 4)):
            right = [
                (*one, *two, k) for one in cells for two in cells for k in range(len(book[0]))
                if steps_told(book, steps + ((*one, *two, k),)) is not None
            ]
            if right and source.random() < 0.9:
                steps += (source.choice(right),)
            else:
                steps += ((*source.choice(cells), *source.choice(cells), source.randrange(len(book[0]))),)
        return spoilt(source, steps) if source.random() < 0.3 else steps

    def test_any_steps(self):
        source = seeded(563)
        told = {}
        for book, _ in small_books(source, 120):
            if len(cells_of(book[0])) > 8:
                continue
            for _ in range(4):
                steps = self.some_steps(source, book)
                out = steps_told(book, steps) if isinstance(steps, tuple) else None
                for one, two in itertools.product(cells_of(book[0]), repeat=2):
                    wanted = out is not None and (one, two) in out
                    self.assertIs(out_right(book, steps, one, two), wanted)
                    told["out", wanted] = told.get(("out", wanted), 0) + 1
                wanted = out is not None and any(
                    all(((i, a), (i, a)) in out for a in range(many)) for i, many in enumerate(book[0])
                )
                self.assertIs(none_right(book, steps), wanted)
                told["none", wanted] = told.get(("none", wanted), 0) + 1
        self.assertEqual(len(told), 4)
        self.assertGreater(min(told.values()), 5)

    def test_what_is_out_at_the_beginning(self):
        for book, pages in small_books(seeded(564), 150):
            out = out_first(book)
            for one, two in itertools.product(cells_of(book[0]), repeat=2):
                self.assertIs(out_right(book, (), one, two), (one, two) in out)

    def test_a_step_may_tell_what_is_out_already(self):
        step = (0, 1, 0, 1, 1)
        self.assertIs(out_right(C, (step, step), (0, 1), (0, 1)), True)
        # Each step has to be right behind those ahead of it, though not those behind it.
        self.assertIs(none_right(N, ((0, 0, 0, 0, 1), (0, 1, 0, 1, 1))), True)
        self.assertIs(out_right(M, ((0, 1, 1, 0, 2),), (0, 1), (1, 1)), False)

    def test_many_steps(self):
        step = (0, 1, 0, 1, 1)
        with Quick(self):
            self.assertIs(out_right(C, (step,) * 16000, (0, 1), (0, 1)), True)
            self.assertIs(none_right(C, (step,) * 16000), False)

    def test_great_papers(self):
        sizes = (6,) * 24
        chain = tuple(("either", at, 0, at + 1, 1) for at in range(23))
        with Quick(self):
            steps = out_paper((sizes, chain), (0, 1), (23, 0))
            self.assertIs(out_right((sizes, chain), steps, (0, 1), (23, 0)), True)
            book = (sizes, chain + (("own", 0, (1,)), ("own", 23, (0,))))
            self.assertIs(none_right(book, none_paper(book)), True)


class AnythingTest(unittest.TestCase):
    """What does not have the form is judged False, whatever it is made of."""

    RIGHT = (
        (three_right, (E,) + E[1][:3]), (stuck_right, (E, (1, 0, 1), ((0, 0),))),
        (unsafe_right, (E, ((0, 0),), (1, 0, 1))), (made_right, (E, (0, 0, 1), (E[1][:3],))),
        (book_right, (T, T_BOOK)), (out_right, (C, ((0, 1, 0, 1, 1),), (0, 1), (0, 1))),
        (none_right, (N, ((0, 0, 0, 0, 1), (0, 1, 0, 1, 1)))), (both_right, (DOOR, (1, 1), (0, 1), (1, 1))),
    )

    def test_the_right_ones(self):
        for judge, given in self.RIGHT:
            self.assertIs(judge(*given), True)

    def test_each_argument_in_turn(self):
        for judge, given in self.RIGHT:
            for at in range(len(given)):
                for thing in THINGS:
                    if repr(thing) != repr(given[at]):
                        told = judge(*given[:at], thing, *given[at + 1:])
                        self.assertIs(type(told), bool)
                        if not isinstance(thing, tuple):
                            self.assertIs(told, False)

    def test_bools_are_no_numbers(self):
        for judge, given in self.RIGHT:
            for at in range(len(given)):
                for wrong in self.with_bools(given[at]):
                    self.assertIs(judge(*given[:at], wrong, *given[at + 1:]), False, (judge, wrong))

    def with_bools(self, thing):
        """The thing with one 0 or 1 in it changed to False or True, in all ways."""
        if thing in (0, 1) and type(thing) is int:
            yield bool(thing)
        elif isinstance(thing, tuple):
            for at, part in enumerate(thing):
                for other in self.with_bools(part):
                    yield thing[:at] + (other,) + thing[at + 1:]

    def test_random_and_spoilt_things(self):
        source = seeded(560)
        for judge, many in JUDGES.items():
            for _ in range(400):
                self.assertIs(judge(*[random_thing(source, 4) for _ in range(many)]), False)
        for judge, given in self.RIGHT:
            for _ in range(600):
                at = source.randrange(len(given))
                self.assertIs(type(judge(*given[:at], spoilt(source, given[at]), *given[at + 1:])), bool)

    def test_wrong_cells(self):
        for wrong in WRONG_CELLS:
            for one, two in (((0, 0), wrong), (wrong, (0, 0)), (wrong, wrong)):
                self.assertIs(out_right(DOOR, (), one, two), False)
                self.assertIs(both_right(DOOR, (0, 0), one, two), False)

    def test_large_things(self):
        shared = (0,)
        for _ in range(15):
            shared = (shared, shared)
        for thing in ((0,) * 99999, ((0, 0),) * 33000, shared, nested(50, (0,) * 90000)):
            for judge, given in self.RIGHT:
                for at in range(len(given)):
                    with Quick(self):
                        told = judge(*given[:at], thing, *given[at + 1:])
                    self.assertIs(told, False)

    def test_the_kernel_leans_on_little(self):
        text = (pathlib.Path(__file__).parent.parent / "onlyforced" / "kernel.py").read_text(encoding="ascii")
        files = set(re.findall(r"^from onlyforced\.(\w+) import", text, re.M))
        self.assertLessEqual(files, {"books", "edits", "errors", "forms", "pages", "tables"})


if __name__ == "__main__":
    unittest.main()
