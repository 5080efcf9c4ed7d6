"""[67] to [71]: sessions: all of [70] row by row, and rows beside what other functions tell."""

import unittest

from onlyforced.closing import tight
from onlyforced.errors import BadEdit, BadMany, BadNames, BadPage, NoPage, NotLawful, Refused, Unlike
from onlyforced.forcing import bar, edit_for, reason
from onlyforced.lawtexts import print_book
from onlyforced.quarrels import parting
from onlyforced.session import Session
from onlyforced.texts import print_edit, print_page
from onlyforced.worlds import World
from tests.helpers import (
    C, NO_PAGE, Quick, WRONG_BOOKS, exactly, nested, planted_book, refused, seeded, small_books, wrong_pages,
)
from tests.plain_reading import Plain, Wrong, edit_of
from tests.test_houses import DOOR
from tests.test_lawtexts import wrong_names
from tests.texts_about import NAMES, spaced, spoilt_words, unlike_names

# DOC.md [70]: rows and their answers, one behind another.
EXAMPLE = (
    ("wish 0 state open", "letter 0"), ("wish 1 lock off", "letter 1"), ("bring 0 1", "-"), ("bring 1 0", "state lock"),
    ("page 0", "draft off"), ("heard 0", "0 1"), ("heard 1", "0 1"), ("send 0", "letter 2"), ("can lock on", "yes"),
    ("can state open, lock off", "no state lock"), ("force state open", "state open , lock on"), ("force -", "-"),
    ("why state open: lock", "by state"), ("why state open: state", "wish"), ("why state draft: lock", "free"),
    ("part state open: lock off", "state lock"), ("part state open: lock on", "-"),
    (
        "law",
        "settings state draft open shut , lock off on ; own state draft open shut ; own lock off on ; "
        "either state draft lock on",
    ),
    ("wish 2 -", "refused: BadHouse 2"), ("bring 9 0", "refused: NoLetter 9"),
    ("force state open, lock off", "refused: CannotMeet 0 1"), ("wish 0 state blue", "refused: NoWorth 13"),
    ("page", "refused: BadText 4"), ("jump", "refused: BadText 0"),
)


def names_for(source, sizes):
    """Names of these sizes."""
    settings = unlike_names(source, len(sizes))
    return tuple((name, unlike_names(source, many)) for name, many in zip(settings, sizes))


class Beside:
    """Answers to rows as [67] to [69] tell them, with a world of its own."""

    WORDS = ("wish", "send", "bring", "page", "heard", "can", "force", "why", "part", "law")

    def __init__(self, names, book, page, many):
        self.names, self.book = names, book
        self.world = World(book, page, (tuple(range(len(page))),) * many, "whole")

    def named(self, settings):
        return " ".join(self.names[at][0] for at in settings) or "-"

    def parts(self, text):
        plain = Plain(text)
        word, _ = plain.word(*self.WORDS)
        if word in ("wish", "send", "page", "heard", "bring"):
            parts = [plain.number()]
            if word == "bring":
                parts.append(plain.number())
            if word == "wish":
                parts.append(edit_of(plain, self.names))
        else:
            parts = [edit_of(plain, self.names)] if word != "law" else []
            if word in ("why", "part"):
                plain.word(":")
                parts.append(plain.setting(self.names)[0] if word == "why" else edit_of(plain, self.names))
        plain.end()
        return word, parts

    def told(self, word, parts):
        book = self.book
        match word:
            case "wish" | "send":
                return f"letter {getattr(self.world, word)(*parts)}"
            case "bring":
                return self.named(self.world.bring(*parts))
            case "page":
                return print_page(self.names, tuple(worth for _, worth in self.world.shown(*parts)))
            case "heard":
                return " ".join(str(number) for number in self.world.heard(*parts)) or "-"
            case "can":
                pair = bar(book, *parts)
                return "yes" if pair is None else "no " + self.named(pair if pair[0] != pair[1] else pair[:1])
            case "force":
                return print_edit(self.names, edit_for(book, *parts))
            case "why":
                why = reason(book, *parts)
                return "free" if why is None else "wish" if why == ("wish",) else "by " + self.named(why[1:])
            case "part":
                return self.named(parting(book, *parts))
        return print_book(self.names, tight(book))

    def row(self, text):
        try:
            return self.told(*self.parts(text))
        except Wrong as wrong:
            error, what = wrong.told
        except Refused as refusal:
            error, what = type(refusal).__name__, refusal.what
        return f"refused: {error} " + (" ".join(map(str, what)) if isinstance(what, tuple) else str(what))


class SessionTest(unittest.TestCase):
    def test_the_example(self):
        session = Session(NAMES, DOOR, (0, 1), 2)
        for row, answer in EXAMPLE:
            exactly(self, session.row(row), answer)
        exactly(self, session.text(), "houses 2 | draft off | draft off")

    def test_attributes_and_a_new_session(self):
        for many in range(1, 9):
            session = Session(NAMES, DOOR, (2, 1), many)
            exactly(self, (session.names, session.book, session.many), (NAMES, DOOR, many))
            self.assertIsInstance(session.world, World)
            exactly(self, session.text(), f"houses {many}" + " | shut on" * many)
            exactly(self, session.world.letters(), 0)
            exactly(self, session.row("page 0"), "shut on")
            exactly(self, session.row("heard 0"), "-")
            exactly(self, session.row(f"page {many}"), f"refused: BadHouse {many}")

    def test_the_world_is_that_of_the_session(self):
        session = Session(NAMES, DOOR, (0, 1), 2)
        session.row("wish 1 state open")
        exactly(self, session.world.shown(1), ((0, 1), (1, 1)))
        exactly(self, session.world.letter(0), ((0, 1), ((0, 1, (1, 1)), (1, 1, (1, 1)))))
        session.world.bring(0, 0)
        exactly(self, session.text(), "houses 2 | open on | open on")
        refused(self, BadEdit, -1, session.world.wish, 0, None)
        exactly(self, session.row("heard 0"), "0")

    def test_refused_rows_change_nothing(self):
        session = Session(NAMES, DOOR, (0, 1), 2)
        session.row("wish 0 state open")
        for row in (
            "wish 0 lock off, state shut", "wish 0 state shut, state open", "wish 0 state shut :", "wish 9 state shut", "send 2",
            "bring 0 1 1", "bring 0 2", "bring 1 0", "send 0 0", "wish 0", "send", "bring 0", "wish state shut", "wish 0 -,", "",
        ):
            self.assertTrue(session.row(row).startswith("refused: "), row)
            exactly(self, session.world.letters(), 1)
            exactly(self, session.text(), "houses 2 | open on | draft on")

    def test_what_is_refused(self):
        session = Session(NAMES, DOOR, (0, 1), 2)
        for row, answer in (
            ("", "BadText 0"), ("   ", "BadText 3"), ("state", "BadText 0"), ("own", "BadText 0"), ("0", "BadText 0"),
            (" page 00", "BadText 6"), ("page 1234567", "BadText 5"), ("page 999999", "BadHouse 999999"), ("page -1", "BadText 5"),
            ("bring 0", "BadText 7"), ("bring 0 0", "NoLetter 0"), ("bring 0 5", "NoLetter 0"), ("page 0 0", "BadText 7"),
            ("can", "BadText 3"), ("can blue on", "NoName 4"), ("can lock on, lock off", "Twice 13"), ("can lock on lock", "BadText 12"),
            ("why lock on", "BadText 11"), ("why lock on:", "BadText 12"), ("why lock on: on", "NoName 13"),
            ("why state open, lock off: gone", "NoName 26"), ("why state open, lock off: lock", "CannotMeet 0 1"),
            ("part lock on", "BadText 12"), ("part lock on:", "BadText 13"), ("part lock on: state", "BadText 19"),
            ("part state open, lock off: -", "CannotMeet 0 1"), ("part -: state open, lock off", "CannotMeet 0 1"),
            ("law law", "BadText 4"), ("law\n", "BadText 3"), ("page 0\xe9", "BadText 6"), ("force state open, lock on,", "BadText 26"),
            ("Page 0", "BadText 0"), ("page0", "BadText 0"), ("wish 7 state open, lock off", "BadHouse 7"),
            ("wish 0 lock off, state open", "CannotMeet 0 1"), (" " * 20001, "BadText 20000"), ("law" + " " * 19998, "BadText 20000"),
        ):
            exactly(self, session.row(row), "refused: " + answer)
        for thing in (None, True, 0, (), ("law",), nested(50, "law")):
            exactly(self, session.row(thing), "refused: BadText -1")
        exactly(self, session.row("law" + " " * 19997), session.row("law"))

    def test_one_name_where_the_bar_tells_one_setting_twice(self):
        names = (("a", ("x", "y")), ("b", ("u", "v")))
        session = Session(names, C, (0, 1), 1)
        exactly(self, session.row("can a y"), "no a")
        exactly(self, session.row("can b u, a y"), "no a")
        exactly(self, session.row("force a y"), "refused: CannotMeet 0 0")
        exactly(self, session.row("force b u, a x"), "a x , b u")
        exactly(self, session.row("force b u"), "b u")
        exactly(self, session.row("part b u : b v"), "b")
        exactly(self, session.row("law"), "settings a x y , b u v ; own a x ; own b u v")

    def test_settings_and_worths_called_by_the_words_of_rows(self):
        names = (("wish", ("law", "page", "can")), ("part", ("why", "force")))
        session = Session(names, DOOR, (0, 1), 1)
        exactly(self, session.row("wish 0 wish page"), "letter 0")
        exactly(self, session.row("why wish page: part"), "by wish")
        exactly(self, session.row("part wish page: part why"), "wish part")
        exactly(self, session.row("page 0"), "page force")

    def test_400_letters(self):
        session = Session(NAMES, DOOR, (0, 1), 8)
        with Quick(self):
            for number in range(400):
                exactly(self, session.row(f"wish {number % 8} state shut"), f"letter {number}")
            exactly(self, session.row("wish 0 -"), "refused: Full 400")
            exactly(self, session.row("send 0"), "refused: Full 400")
            exactly(self, session.row("wish 8 -"), "refused: BadHouse 8")
            exactly(self, session.row("bring 399 0"), "state lock")

    def edit_words(self, source, names, pages):
        page = source.choice(pages)
        told = [at for at in range(len(page)) if source.random() < 0.6]
        source.shuffle(told)
        if source.random() < 0.05:
            told += told[:1]
        words = []
        for at in told:
            worth = page[at] if source.random() < 0.8 else source.randrange(len(names[at][1]))
            words += [",", names[at][0], names[at][1][worth]]
        return words[1:] or ["-"]

    def random_row(self, source, names, pages, letters, many):
        word = source.choice(Beside.WORDS)
        number = [str(source.randrange(many + (source.random() < 0.1)))]
        edit = self.edit_words(source, names, pages)
        return [word] + {
            "wish": number + edit, "send": number, "page": number, "heard": number,
            "bring": [str(source.randrange(letters + 1))] + number, "can": edit, "force": edit,
            "why": edit + [":", source.choice(names)[0]], "part": edit + [":"] + self.edit_words(source, names, pages),
        }.get(word, [])

    def test_rows_by_chance(self):
        source = seeded(691)
        told = {}
        for book, pages in small_books(source, 150):
            if not pages:
                continue
            names, many = names_for(source, book[0]), source.randint(1, 4)
            given = (names, book, source.choice(pages), many)
            session, beside = Session(*given), Beside(*given)
            for _ in range(40):
                words = self.random_row(source, names, pages, session.world.letters(), many)
                if source.random() < 0.2:
                    words = spoilt_words(source, words, 1)
                row = spaced(source, words)
                answer = session.row(row)
                exactly(self, answer, beside.row(row))
                key = answer.split(" ")[1] if answer.startswith("refused: ") else (row.split() + [""])[0][:4]
                told[key] = told.get(key, 0) + 1
                page_rows = [beside.row(f"page {h}") for h in range(many)]
                exactly(self, session.text(), " | ".join([f"houses {many}"] + page_rows))
        for error in ("BadText", "NoName", "NoWorth", "Twice", "CannotMeet", "BadHouse", "NoLetter"):
            self.assertGreater(told.get(error, 0), 5, error)

    def test_great_sessions(self):
        source = seeded(692)
        for sizes in ((2,) * 24, (6,) * 24):
            book, page = planted_book(source, sizes, 100)
            names = names_for(source, sizes)
            with Quick(self):
                session = Session(names, book, page, 8)
            for _ in range(40):
                words = self.random_row(source, names, [page], session.world.letters(), 8)
                with Quick(self):
                    session.row(" ".join(words))


class WrongSessionsTest(unittest.TestCase):
    def test_errors_in_their_order(self):
        for names, what in wrong_names():
            refused(self, BadNames, what, Session, names, DOOR, (0, 1), 2)
            refused(self, BadNames, what, Session, names, None, None, None)
        for book, error, what in WRONG_BOOKS:
            refused(self, error, what, Session, NAMES, book, (0, 1), 2)
            refused(self, error, what, Session, (("a", ("b",)),), book, None, None)
        for sizes in ((3,), (2, 3), (3, 2, 1)):
            refused(self, Unlike, 0, Session, NAMES, (sizes, ()), (0, 1), 2)
            refused(self, Unlike, 0, Session, NAMES, (sizes, (("own", 0, (0,)), ("own", 0, (1,)))), None, None)
        for book in NO_PAGE:
            names = names_for(seeded(711), book[0])
            refused(self, NoPage, 0, Session, names, book, (0,) * len(book[0]), 2)
            refused(self, NoPage, 0, Session, names, book, None, None)
        for page, what in wrong_pages((3, 2)):
            refused(self, BadPage, what, Session, NAMES, DOOR, page, 2)
            refused(self, BadPage, what, Session, NAMES, DOOR, page, None)
        for page in ((1, 0), (2, 0)):
            refused(self, NotLawful, 0, Session, NAMES, DOOR, page, 2)
            refused(self, NotLawful, 0, Session, NAMES, DOOR, page, 0)
        for many in (0, 9, -1, 10 ** 50, True, False, None, "2", (2,), ()):
            refused(self, BadMany, many, Session, NAMES, DOOR, (0, 1), many)


if __name__ == "__main__":
    unittest.main()
