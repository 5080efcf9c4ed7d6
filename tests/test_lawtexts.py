"""[57] to [60], [62], [63] and [66]: names, words, laws read and told, their tables and books."""

import unittest

from onlyforced.closing import tight
from onlyforced.errors import (
    BadNames, BadText, NoName, NoPage, NotPairs, NoWorth, TooDeep, TooMany, Twice, Unlike,
)
from onlyforced.formulas import true_at
from onlyforced.lawtexts import (
    law_book, law_table, made_names, print_book, print_law, read_law, sizes_of,
)
from tests.helpers import (
    Quick, T, THINGS, WRONG_BOOKS, all_pages, exactly, nested, random_book, random_thing, refused, saying_kept,
    seeded,
)
from tests.plain_reading import KEPT, Wrong, plain_law
from tests.texts_about import (
    NAMES, SETTINGS, random_law, random_names, random_rule, sizes_told, spaced, spoilt_words,
)

ERRORS = {error.__name__: error for error in (BadText, NoName, NoWorth, TooDeep, TooMany, Twice)}

# What is no name.
NO_NAMES = KEPT + [
    "", "A", "aB", "1", "1a", "a-b", "a b", " a", "a ", "abcdefghijklm", "a_b", "a\n", "\xe4", "a\xb2", "a\u0660",
    None, True, 0, (), ("a",), nested(48, "a"),
]


def wrong_names():
    """What is no names, with what BadNames tells of it."""
    yield from ((thing, -1) for thing in (
        None, True, 0, "", "ab", (), (("a", ("b",)),) * 25, (None,) * 25, (None,) * 90000,
    ))
    right = ("x", ("y", "z"))
    parts = [None, True, 0, "ab", (), ("a",), ("a", ("b",), ("c",)), ("a", ()), ("a", "b"), ("a", None), ("a", 0),
             ("a", tuple("abcdefg")), ("a", ("b", "c", "b")), ("a", ("b", None)), ("a", ("b", nested(46, "c"))),
             ("a", (("b",), ("b",))), nested(49, "a"), ("a", ("b",) * 90000)]
    parts += [(name, ("b",)) for name in NO_NAMES] + [("a", ("b", name)) for name in NO_NAMES]
    for part in parts:
        yield (part,), 0
        yield (right, part), 1
        yield (right, ("u", ("v",)), part, right), 2
    yield (right, ("y", ("x",)), right), 2
    yield (right, right, None), 1


def read_beside(case, text):
    """Expect a law's text to be read as the plain reading reads it; return whether it is read."""
    try:
        wanted = plain_law(text)
    except Wrong as wrong:
        error, what = wrong.told
        refused(case, ERRORS[error], what, read_law, text)
        return False
    exactly(case, read_law(text), wanted)
    return True


class NamesTest(unittest.TestCase):
    def test_right_names_come_back(self):
        for names in (
            NAMES, (("a", ("a",)),), (("wish", ("law", "heard")), ("a1b2c3d4e5f6", ("x", "x0", "abcdefghijkl"))),
            tuple((f"s{at}", ("a", "b", "c", "d", "e", "f")) for at in range(24)), (("iff", ("ands", "or1", "nott")),),
        ):
            exactly(self, made_names(names), names)
            exactly(self, sizes_of(names), tuple(len(worths) for _, worths in names))
        exactly(self, sizes_of(NAMES), (3, 2))

    def test_wrong_names(self):
        for names, what in wrong_names():
            refused(self, BadNames, what, made_names, names)
            refused(self, BadNames, what, sizes_of, names)

    def test_anything(self):
        source = seeded(571)
        for thing in list(THINGS) + [random_thing(source, 4) for _ in range(2000)]:
            with self.assertRaises(BadNames):
                made_names(thing)

    def test_wrong_names_go_first(self):
        for names, what in wrong_names():
            refused(self, BadNames, what, law_table, names, ())
            refused(self, BadNames, what, law_book, names, (("rule", ("is", 0, 0)),))
            refused(self, BadNames, what, print_law, names, ())
            refused(self, BadNames, what, print_book, names, ((2,), ()))
            refused(self, BadNames, what, print_book, names, None)


class ReadTest(unittest.TestCase):
    def test_the_examples_of_settings(self):
        exactly(self, read_law(SETTINGS), (NAMES, ()))
        for text, error, place in (
            ("settings a b b", Twice, 13), ("settings a", BadText, 10), ("settings a b, a", Twice, 14),
            ("settings own a", BadText, 9), ("settings a b c; own a c c", Twice, 24),
            ("settings a b c; either a b a c", Twice, 27), ("settings a b; own a d", NoWorth, 20),
            ("settings a b; own c", NoName, 18),
        ):
            refused(self, error, place, read_law, text)

    def test_the_examples_of_rules(self):
        for text, rule in (
            ("; either lock on state draft", ("either", 0, 0, 1, 1)),
            ("; tied lock state: on shut, off draft", ("tied", 0, 1, ((0, 0), (2, 1)))),
            ("; own state shut draft", ("own", 0, (0, 2))),
            (
                "; rule if state open or state shut then lock on",
                ("rule", ("if", ("or", (("is", 0, 1), ("is", 0, 2))), ("is", 1, 1))),
            ),
            (
                "; rule not (state open and not lock on)",
                ("rule", ("not", ("and", (("is", 0, 1), ("not", ("is", 1, 1)))))),
            ),
        ):
            exactly(self, read_law(SETTINGS + text), (NAMES, (rule,)))

    def test_what_is_no_text(self):
        for thing in (None, True, 0, -1, (), ("settings",), ("settings a b",), nested(50, "a")):
            refused(self, BadText, -1, read_law, thing)

    def test_signs(self):
        for sign in ("\n", "\t", "\x00", "\x1f", "\x7f", "\x80", "\xe4", "\xa0", "\u2028", "\ud800", "\U0001f600"):
            refused(self, BadText, 0, read_law, sign)
            refused(self, BadText, 14, read_law, "settings a b c" + sign)
            # The first wrong sign goes ahead of the first wrong word.
            refused(self, BadText, 8, read_law, "nothing " + sign)
        for sign in "ABZ!\"#$&'*+./<=>?@[]^_`{|}~%\\":
            refused(self, BadText, 14, read_law, "settings a b c" + sign)
            refused(self, BadText, 9, read_law, "settings " + sign + "a b")

    def test_where_a_text_ends(self):
        whole = SETTINGS + "; rule if not (state open) then lock on; tied state lock: open on; own lock on"
        for many in range(len(whole)):
            read_beside(self, whole[:many])
            read_beside(self, whole[:many] + " ")
        refused(self, BadText, 0, read_law, "")
        refused(self, BadText, 3, read_law, "   ")
        refused(self, BadText, 8, read_law, "settings")
        refused(self, BadText, len(SETTINGS) + 1, read_law, SETTINGS + ";")

    def test_20000_signs_and_one_more(self):
        for text in ("settings a b", SETTINGS + "; rule state open"):
            long = text + " " * (20000 - len(text))
            exactly(self, read_law(long), plain_law(text))
            refused(self, BadText, 20000, read_law, long + " ")
            refused(self, BadText, 20000, read_law, long + "\n" * 50000)
            refused(self, BadText, 19999, read_law, long[:-1] + "\n" + "x" * 9)
        with Quick(self):
            refused(self, BadText, 9, read_law, "settings " + "a" * 19991)
            refused(self, BadText, 10000, read_law, " " * 10000 + "a" * 10000)
            refused(self, BadText, 0, read_law, "(" * 20000)

    def test_words_that_cannot_stand_anywhere(self):
        for word in ("07", "00", "1234567", "9a", "abcdefghijklm", "A", "settingsa", "0", "12", "999999", "-", "b-"):
            read_beside(self, "settings a " + word)
            read_beside(self, "settings a b; own a " + word)
            read_beside(self, "settings a b; own a b " + word)
            read_beside(self, word + " a b")

    def test_words_that_are_no_kept_words(self):
        exactly(self, read_law("settings then1 ifx")[0], (("then1", ("ifx",)),))
        exactly(self, read_law("settings wish send bring,law law")[0], (("wish", ("send", "bring")), ("law", ("law",))))

    def test_24_settings_and_6_worths_and_one_more(self):
        settings = [f"s{at} a b c d e f" for at in range(24)]
        text = "settings " + ", ".join(settings)
        exactly(self, sizes_of(read_law(text)[0]), (6,) * 24)
        refused(self, TooMany, len(text) + 2, read_law, text + ", s24 a")
        # Of a 25th one that stands ahead it is asked first whether it is too many.
        refused(self, TooMany, len(text) + 2, read_law, text + ", s3 a")
        refused(self, BadText, len(text) + 2, read_law, text + ", own a")
        refused(self, BadText, len(text) + 1, read_law, text + ",")
        refused(self, TooMany, len(text) + 1, read_law, text + " g")
        refused(self, TooMany, len(text) + 1, read_law, text + " a")
        refused(self, TooMany, 23, read_law, "settings s a b c d e f g")

    def test_400_rules_and_one_more(self):
        text = "settings a b" + ";own a b" * 400
        exactly(self, read_law(text)[1], (("own", 0, (0,)),) * 400)
        refused(self, TooMany, len(text) + 1, read_law, text + ";own c")
        refused(self, TooMany, len(text) + 2, read_law, text + "; rule x")
        refused(self, BadText, len(text) + 1, read_law, text + ";a")
        refused(self, BadText, len(text) + 1, read_law, text + ";")
        refused(self, BadText, len(text) + 1, read_law, text + " ,")

    def test_the_order_of_questions(self):
        for text, error, place in (
            ("; either state draft state blue", Twice, 21), ("; either state draft gone blue", NoName, 21),
            ("; tied state lock lock", BadText, 18), ("; tied state state", Twice, 13), ("; tied state gone", NoName, 13),
            ("; tied state lock: open on, open", Twice, 28), ("; tied state lock: open on, shut on", Twice, 33),
            ("; tied state lock: open shut", NoWorth, 24), ("; tied state lock: on", NoWorth, 19),
            ("; tied state lock: open on,", BadText, 27), ("; own state open blue open", NoWorth, 17),
            ("; own state lock", NoWorth, 12), ("; own", BadText, 5), ("; own state", BadText, 11),
            ("; own state ;", BadText, 12), ("; own state open,", BadText, 16), ("; either state draft", BadText, 20),
            ("; rule", BadText, 6), ("; rule then", BadText, 7), ("; rule state open then", BadText, 18),
            ("; rule if state open", BadText, 20), ("; rule if state open )", BadText, 21), ("; rule (", BadText, 8),
            ("; rule (state open", BadText, 18), ("; rule (state open then", BadText, 19), ("; rule ()", BadText, 8),
            ("; rule state open and if", BadText, 22), ("; rule if if", BadText, 10), ("; rule state open state", BadText, 18),
            ("; rule gone", NoName, 7), ("; rule state gone", NoWorth, 13), ("; rule not if", BadText, 11),
            ("; rule if state open then lock on then", BadText, 34), ("; rule not", BadText, 10),
        ):
            refused(self, error, len(SETTINGS) + place, read_law, SETTINGS + text)

    def test_formulas_of_three_parts_and_of_two(self):
        one, two, three = ("is", 0, 1), ("is", 1, 1), ("is", 1, 0)
        for word in ("and", "or"):
            for text, rule in (
                (f"state open {word} lock on {word} lock off", (word, (one, two, three))),
                (f"state open {word} (lock on {word} lock off)", (word, (one, (word, (two, three))))),
                (f"(state open {word} lock on) {word} lock off", (word, ((word, (one, two)), three))),
            ):
                exactly(self, read_law(SETTINGS + "; rule " + text)[1], (("rule", rule),))
        exactly(self, read_law(SETTINGS + "; rule ((state open))")[1], (("rule", one),))
        exactly(self, read_law(SETTINGS + "; rule state open or lock on and lock off")[1],
                (("rule", ("or", (one, ("and", (two, three))))),))

    def test_30_deep_and_one_more(self):
        for opened, ended, many in (("(", ")", 30), ("not ", "", 30), ("(not ", ")", 15), ("not (", ")", 15)):
            text = SETTINGS + "; rule " + opened * many + "state open" + ended * many
            exactly(self, read_law(text), plain_law(text))
            for more in ("(", "not "):
                deeper = SETTINGS + "; rule " + opened * many + more
                refused(self, TooDeep, len(deeper) - len(more), read_law, deeper)
                refused(self, TooDeep, len(deeper) - len(more), read_law, deeper + "gone")
            # What is ended is not open any more.
            again = text + " and " + opened * many + "lock on" + ended * many
            exactly(self, read_law(again), plain_law(again))
        text = SETTINGS + "; rule " + "(if not state open then (not lock on or " * 14 + "state shut" + "))" * 14
        exactly(self, read_law(text), plain_law(text))
        refused(self, TooDeep, len(text) + 36, read_law, text + " and " + "(" * 30 + " not")

    def test_texts_by_chance(self):
        source = seeded(591)
        told = [0, 0]
        for _ in range(1500):
            names, rules = random_law(source)
            words = print_law(names, rules).split()
            self.assertIs(read_beside(self, spaced(source, words)), True)
            for _ in range(4):
                told[read_beside(self, spaced(source, spoilt_words(source, words, source.randint(1, 3))))] += 1
        self.assertGreater(min(told), 300)

    def test_signs_by_chance(self):
        source = seeded(592)
        for _ in range(3000):
            text = print_law(*random_law(source))
            at = source.randrange(len(text) + 1)
            sign = source.choice("ab01 ;,:()-AZ~!\n\xe9")
            read_beside(self, text[:at] + sign + text[at + source.randint(0, 2):])


class TableTest(unittest.TestCase):
    def test_the_example(self):
        names, rules = read_law(SETTINGS + "; rule state draft or lock on")
        exactly(self, law_table(names, rules), T)
        refused(self, NotPairs, 0, law_book, names, rules)
        names, rules = read_law(SETTINGS + "; either state draft lock on")
        exactly(self, law_book(names, rules), ((3, 2), (("either", 0, 0, 1, 1),)))
        exactly(self, law_table(names, rules), T)

    def test_laws_by_chance(self):
        source = seeded(621)
        told = {}
        for _ in range(1200):
            names, rules = random_law(source, 5)
            sizes = sizes_told(names)
            pages = tuple(page for page in all_pages(sizes) if all(
                true_at(rule[1], page) if rule[0] == "rule" else saying_kept(rule, page) for rule in rules
            ))
            if not pages:
                refused(self, NoPage, 0, law_table, names, rules)
            elif len(pages) > 200:
                refused(self, TooMany, len(pages), law_table, names, rules)
            else:
                exactly(self, law_table(names, rules), (sizes, pages))
            formulas = [at for at, rule in enumerate(rules) if rule[0] == "rule"]
            if formulas:
                refused(self, NotPairs, formulas[0], law_book, names, rules)
            else:
                exactly(self, law_book(names, rules), (sizes, rules))
            key = (min(len(pages), 201) // 201, not pages)
            told[key] = told.get(key, 0) + 1
        self.assertEqual(len(told), 3)

    def names(self, sizes):
        return tuple((f"s{at}", tuple("abcdef"[:many])) for at, many in enumerate(sizes))

    def test_products_of_4096_and_above(self):
        one = ("rule", ("is", 0, 0))
        for sizes, many in (((2,) * 12, 4096), ((4,) * 6, 4096), ((1, 4) * 6 + (1,) * 12, 4096)):
            refused(self, TooMany, many, law_table, self.names(sizes), ())
            owns = tuple(("own", at, (0,)) for at in range(len(sizes)))
            exactly(self, law_table(self.names(sizes), owns), (sizes, ((0,) * len(sizes),)))
        for sizes, many in (((6, 6, 6, 6, 4), 5184), ((2,) * 13, 8192), ((6,) * 24, 6 ** 24), ((5, 5, 5, 3, 6, 2), 4500)):
            # It is asked ahead of whether there is a page.
            none = (("rule", ("and", (("is", 0, 0), ("not", ("is", 0, 0))))),)
            for rules in ((), none, (one,)):
                refused(self, TooMany, many, law_table, self.names(sizes), rules)
        exactly(self, law_book(self.names((6,) * 24), ()), ((6,) * 24, ()))

    def test_200_pages_and_201(self):
        sizes = (6, 6, 6)
        names = self.names(sizes)
        for gone in (16, 15):
            parts = tuple(("and", tuple(("is", at, worth) for at, worth in enumerate(page)))
                          for page in all_pages(sizes)[:gone])
            rules = (("rule", ("not", ("or", parts))),)
            if gone == 16:
                exactly(self, law_table(names, rules), (sizes, tuple(all_pages(sizes)[16:])))
            else:
                refused(self, TooMany, 201, law_table, names, rules)

    def test_great_laws(self):
        source = seeded(622)
        sizes = (2,) * 12
        names = self.names(sizes)
        rules = tuple(random_rule(source, sizes) for _ in range(400))
        wide = (("rule", ("or", (("is", 3, 1), ("not", ("is", 3, 1))) * 20000)),) * 4
        with Quick(self):
            for some in (rules, rules[:1], rules[:20], wide):
                try:
                    law_table(names, some)
                except (NoPage, TooMany):
                    pass
        deep = ("is", 0, 0)
        for _ in range(98):
            deep = ("not", deep)
        exactly(self, len(law_table(names, (("rule", deep), ("own", 1, (0,)), ("own", 2, (0,)), ("own", 3, (0,)),
                                            ("own", 4, (0,))))[1]), 128)


class PrintTest(unittest.TestCase):
    def test_the_examples(self):
        exactly(self, print_law(*read_law(SETTINGS + "; rule state draft or lock on")),
                "settings state draft open shut , lock off on ; rule state draft or lock on")
        settings = "settings state draft open shut , lock off on"
        for rule, text in (
            (("rule", ("not", ("or", (("is", 0, 1), ("is", 1, 1))))), "rule not ( state open or lock on )"),
            (("tied", 0, 1, ((0, 0), (2, 1))), "tied state lock : draft off , shut on"),
            (("either", 0, 0, 1, 1), "either state draft lock on"), (("own", 0, (0, 2)), "own state draft shut"),
        ):
            exactly(self, print_law(NAMES, (rule,)), settings + " ; " + text)
        exactly(self, print_law(NAMES, ()), settings)

    def test_brackets(self):
        units = {"a": ("is", 0, 1), "b": ("is", 1, 1)}
        names = {"a": "state open", "b": "lock on"}
        both = (units["a"], units["b"])
        sorts = {"is": units["a"], "not": ("not", units["a"]), "if": ("if", *both), "or": ("or", both), "and": ("and", both)}
        texts = {"is": "a", "not": "not a", "if": "if a then b", "or": "a or b", "and": "a and b"}
        for sort, part in sorts.items():
            text = texts[sort]
            bracketed = f"( {text} )"
            wholes = (
                (("not", part), "not X", ("if", "or", "and")), (("and", (part, part)), "X and X", ("if", "or", "and")),
                (("or", (units["b"], part)), "b or X", ("if", "or")), (("if", part, units["b"]), "if X then b", ("if",)),
                (("if", units["b"], part), "if b then X", ("if",)),
            )
            for formula, wanted, brackets in wholes:
                wanted = wanted.replace("X", bracketed if sort in brackets else text)
                wanted = " ".join(names.get(word, word) for word in wanted.split())
                told = print_law(NAMES, (("rule", formula),))
                exactly(self, told.partition(" ; rule ")[2], wanted)
                exactly(self, read_law(told)[1], (("rule", formula),))

    def test_there_and_back(self):
        source = seeded(661)
        for _ in range(1500):
            names, rules = random_law(source)
            told = print_law(names, rules)
            if max(told.count("("), told.count("not")) < 15:
                exactly(self, read_law(told), (names, rules))
                exactly(self, print_law(*read_law(told)), told)
            words = told.split(" ")
            self.assertNotIn("", words)
            book = random_book(source, sizes_told(names), 6)
            told = print_book(names, book)
            exactly(self, read_law(told), (names, book[1]))
            exactly(self, law_book(*read_law(told)), book)

    def test_books(self):
        exactly(self, print_book(NAMES, tight(((3, 2), (("either", 0, 0, 1, 1),)))),
                "settings state draft open shut , lock off on ; own state draft open shut ; own lock off on ; "
                "either state draft lock on")
        for book, error, what in WRONG_BOOKS:
            refused(self, error, what, print_book, NAMES, book)
        for sizes in ((3,), (2, 3), (3, 2, 1), (3, 3)):
            refused(self, Unlike, 0, print_book, NAMES, (sizes, ()))

    def test_great_texts(self):
        source = seeded(662)
        for many in (4, 24):
            names = random_names(source, 1, 2)
            while len(names) != many:
                names = random_names(source, many, 6)
            with Quick(self):
                rules = tuple(random_rule(source, sizes_told(names)) for _ in range(400))
                told = print_law(names, rules)
                if len(told) <= 20000:
                    exactly(self, read_law(told), (names, rules))
                book = random_book(source, sizes_told(names), 400)
                print_book(names, book)
        deep = ("is", 0, 0)
        for at in range(30):
            deep = ("not", ("if", deep, ("and", (("is", 1, 1), ("is", 0, 1))))) if at % 2 else ("or", (deep, ("is", 0, 1)))
        told = print_law(NAMES, (("rule", deep),))
        exactly(self, read_law(told), (NAMES, (("rule", deep),)))


if __name__ == "__main__":
    unittest.main()
