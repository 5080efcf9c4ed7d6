"""[0.1]: the interface as the document lists it: where it stands, names, arguments, kinds."""

import importlib
import inspect
import unittest

from onlyforced import houses
from tests.helpers import C, E, H, M, N, T, exactly
from tests.texts_about import NAMES

T_BOOK = ((3, 2), (("own", 0, (0, 1, 2)), ("own", 1, (0, 1)), ("either", 0, 0, 1, 1)))
GRANTS = ((((1, 0),), ((1, 0),)), (((0, 1),), ((0, 1), (1, 1))))
WISHES = (((0, 1),), ((1, 1),))
C_TIGHT = ((2, 2), (("own", 0, (0,)), ("own", 1, (0, 1))))

# Each row: the file, the function, its arguments by name, and what it returns for them.
ROWS = (
    ("pages", "made_sizes", {"thing": (3, 2)}, (3, 2)),
    ("pages", "is_sizes", {"thing": (3, 2)}, True),
    ("pages", "made_page", {"sizes": (3, 2), "thing": (2, 1)}, (2, 1)),
    ("pages", "is_page", {"sizes": (3, 2), "thing": (2, 1)}, True),
    ("pages", "changed", {"x": (0, 1), "y": (2, 1)}, (0,)),
    ("pages", "move", {"x": (0, 1), "y": (2, 1), "z": (1, 0)}, (1, 1)),
    ("edits", "made_edit", {"sizes": (3, 2), "thing": ((0, 2),)}, ((0, 2),)),
    ("edits", "is_edit", {"sizes": (3, 2), "thing": ((0, 2),)}, True),
    ("edits", "over", {"page": (0, 1), "edit": ((0, 2),)}, (2, 1)),
    ("edits", "fits", {"page": (0, 1), "edit": ((0, 2),)}, False),
    ("edits", "whole", {"page": (2, 1)}, ((0, 2), (1, 1))),
    ("edits", "cut_to", {"edit": ((0, 2), (1, 1)), "lot": (1,)}, ((1, 1),)),
    ("edits", "within", {"one": ((0, 2),), "two": ((0, 2), (1, 1))}, True),
    ("edits", "laid", {"one": ((0, 2),), "two": ((0, 1),)}, ((0, 1),)),
    ("edits", "together", {"one": ((0, 2),), "two": ((1, 1),)}, ((0, 2), (1, 1))),
    ("edits", "agreed", {"x": (0, 1), "y": (2, 1)}, ((1, 1),)),
    ("tables", "made_table", {"thing": T}, T),
    ("tables", "is_table", {"thing": T}, True),
    ("tables", "lawful", {"table": T, "page": (0, 1)}, True),
    ("tables", "having", {"table": T, "edit": ((1, 0),)}, ((0, 0),)),
    ("tables", "forced_of", {"table": T, "wish": ((0, 1),)}, ((0, 1), (1, 1))),
    ("tables", "fixed_of", {"table": T}, ()),
    ("tables", "pairs_of", {"table": T, "i": 1, "j": 0}, ((0, 0), (1, 0), (1, 1), (1, 2))),
    ("sorts", "sort_of", {"pairs": ((0, 5), (3, 2))}, ("tied",)),
    ("judge", "writable", {"table": T}, True),
    ("judge", "three", {"table": T}, None),
    ("judge", "book_of", {"table": T}, T_BOOK),
    ("judge", "why", {"table": T}, ("book", T_BOOK)),
    ("safe", "safe", {"table": T, "edit": ((0, 1),)}, False),
    ("safe", "breaks", {"table": T, "edit": ((0, 1),)}, (0, 0)),
    ("safe", "safe_edits", {"table": ((2,), ((1,),))}, ((), ((0, 1),))),
    ("safe", "least_edits", {"table": T, "wish": ((0, 1),)}, (((0, 1), (1, 1)),)),
    ("books", "is_saying", {"sizes": (3, 2), "thing": ("own", 0, (2,))}, True),
    ("books", "made_book", {"thing": M}, M),
    ("books", "is_book", {"thing": M}, True),
    ("books", "keeps", {"book": M, "page": (1, 0, 1)}, False),
    ("books", "broken", {"book": M, "page": (1, 0, 1)}, 1),
    ("closing", "tight", {"book": C}, C_TIGHT),
    ("closing", "alike", {"one": C, "two": N}, False),
    ("closing", "follows", {"book": M, "saying": ("own", 2, (0,))}, False),
    ("closing", "against", {"book": M, "saying": ("own", 2, (0,))}, (0, 0, 1)),
    ("fills", "least_page", {"book": M, "wish": ((1, 1),)}, (0, 1, 0)),
    ("fills", "pages_of", {"book": M, "most": 2}, ((0, 0, 0), (0, 0, 1))),
    ("meek", "meek_right", {"table": T, "page": (0, 0), "wish": ((0, 1),), "new": (1, 1)}, True),
    ("meek", "stuck", {"table": T}, None),
    ("meek", "near", {"table": T, "page": (0, 1), "wish": ((1, 0),)}, ((0, 0),)),
    ("grants", "made_grants", {"sizes": (3, 2), "thing": GRANTS}, GRANTS),
    ("grants", "unsafe", {"table": T, "grants": GRANTS}, (0, (1, 1))),
    (
        "grants", "run_grants",
        {"table": T, "page": (0, 1), "many": 2, "grants": GRANTS, "script": (("wish", 1, 0),)},
        (((0, 1), (0, 1)), ((0, 1), (0, 0))),
    ),
    ("forcing", "can_meet", {"book": M, "wish": ((0, 1), (2, 1))}, False),
    ("forcing", "bar", {"book": M, "wish": ((0, 1), (2, 1))}, (0, 2)),
    ("forcing", "fixed", {"book": C}, ((0, 0),)),
    ("forcing", "forced", {"book": C, "wish": ((1, 1),)}, ((0, 0), (1, 1))),
    ("forcing", "edit_for", {"book": C, "wish": ((1, 1),)}, ((1, 1),)),
    ("forcing", "reason", {"book": H, "wish": ((0, 1),), "setting": 2}, ("by", 0)),
    ("forcing", "safe_in", {"book": H, "edit": ((2, 1),)}, True),
    ("forcing", "breaks_in", {"book": H, "edit": ((1, 1),)}, (0, 0, 0)),
    ("papers", "out_paper", {"book": M, "one": (0, 1), "two": (1, 0)}, None),
    ("papers", "none_paper", {"book": ((2,), (("own", 0, (0,)), ("own", 0, (1,))))}, ()),
    ("visits", "made_wishes", {"book": M, "thing": WISHES}, WISHES),
    ("visits", "after", {"book": M, "page": (0, 0, 1), "wishes": WISHES, "visits": (1, 0)}, (1, 0, 0)),
    ("visits", "changes", {"book": M, "page": (0, 0, 1), "wishes": WISHES, "visits": (1, 0)}, (1, 2, 1)),
    ("visits", "ends", {"book": M, "page": (0, 0, 1), "wishes": WISHES}, ((0, 1, 0), (1, 0, 0))),
    ("quarrels", "parting", {"book": M, "one": ((0, 1),), "two": ((2, 1),)}, (0, 2)),
    ("quarrels", "quarrel", {"book": M, "wishes": WISHES}, (0, 1)),
    ("quarrels", "fought", {"book": M, "wishes": WISHES}, (0, 1)),
    ("quarrels", "joint", {"book": M, "wishes": (((0, 1),), ((2, 0),))}, ((0, 1), (1, 0), (2, 0))),
    ("quarrels", "quiet", {"book": M, "page": (0, 0, 1), "wishes": WISHES}, ((2, 0),)),
    ("quarrels", "most_content", {"book": M, "wishes": WISHES}, (0,)),
    ("rowedits", "made_edits", {"sizes": (3, 2), "thing": (((0, 1),),)}, (((0, 1),),)),
    ("rowedits", "laid_all", {"sizes": (3, 2), "edits": (((0, 1),), ((0, 2),))}, ((0, 2),)),
    ("rowedits", "same", {"book": M, "one": (((1, 0),),), "two": ()}, False),
    ("rowedits", "part_page", {"book": M, "one": (((1, 0),),), "two": ()}, (0, 1, 0)),
    ("letters", "made_row", {"sizes": (3, 2), "lot": (1,), "thing": ((1, 0, (0, 0)),)}, ((1, 0, (0, 0)),)),
    ("letters", "made_letter", {"sizes": (3, 2), "thing": ((1,), ())}, ((1,), ())),
    ("worlds", "run_script", {
        "book": T_BOOK, "page": (0, 1), "lots": ((0, 1),), "manner": "whole", "script": (("wish", 0, ((0, 2),)),),
    }, (((0, 2), (1, 1)),)),
    ("manners", "kept_by", {"book": M, "manner": "torn"}, False),
    ("manners", "bad_run", {"book": C, "manner": "torn"}, None),
    ("shared", "classes", {"book": C}, ((0,), (1,))),
    ("shared", "may_share", {"book": M, "i": 0, "j": 1}, False),
    ("shared", "lost_share", {"book": M, "i": 1, "j": 1}, None),
    ("kernel", "three_right", {"table": E, "x": E[1][0], "y": E[1][1], "z": E[1][2]}, True),
    ("kernel", "stuck_right", {"table": E, "page": (1, 0, 1), "wish": ((0, 0),)}, True),
    ("kernel", "unsafe_right", {"table": E, "edit": ((0, 0),), "page": (1, 0, 1)}, True),
    ("kernel", "made_right", {"table": E, "page": (0, 0, 1), "rows": (E[1][:3],)}, True),
    ("kernel", "book_right", {"table": T, "book": T_BOOK}, True),
    ("kernel", "out_right", {"book": C, "steps": ((0, 1, 0, 1, 1),), "one": (0, 1), "two": (0, 1)}, True),
    ("kernel", "none_right", {"book": N, "steps": ((0, 0, 0, 0, 1), (0, 1, 0, 1, 1))}, True),
    ("kernel", "both_right", {"book": T_BOOK, "page": (2, 1), "one": (0, 2), "two": (1, 1)}, True),
    ("formulas", "true_at", {"formula": ("not", ("is", 0, 1)), "page": (2, 1)}, True),
    ("lawtexts", "made_names", {"thing": NAMES}, NAMES),
    ("lawtexts", "sizes_of", {"names": NAMES}, (3, 2)),
    ("lawtexts", "read_law", {"text": "settings a b; own a b"}, ((("a", ("b",)),), (("own", 0, (0,)),))),
    ("lawtexts", "law_table", {"names": NAMES, "rules": (("either", 0, 0, 1, 1),)}, T),
    ("lawtexts", "law_book", {"names": NAMES, "rules": T_BOOK[1]}, T_BOOK),
    ("lawtexts", "print_law", {"names": (("a", ("b",)),), "rules": (("own", 0, (0,)),)}, "settings a b ; own a b"),
    ("lawtexts", "print_book", {"names": (("a", ("b",)),), "book": ((1,), ())}, "settings a b"),
    ("texts", "read_edit", {"names": NAMES, "text": "lock on"}, ((1, 1),)),
    ("texts", "print_edit", {"names": NAMES, "edit": ((1, 1),)}, "lock on"),
    ("texts", "read_page", {"names": NAMES, "text": "shut on"}, (2, 1)),
    ("texts", "print_page", {"names": NAMES, "page": (2, 1)}, "shut on"),
    ("hulls", "hull", {"table": T}, T_BOOK),
    ("hulls", "hull_table", {"table": T}, T),
    ("hulls", "made_by", {"table": T, "page": (1, 0)}, None),
)


class InterfaceTest(unittest.TestCase):
    def function(self, file, name):
        return getattr(importlib.import_module("onlyforced." + file), name)

    def test_each_function_is_defined_in_its_file(self):
        for file, name, _, _ in ROWS:
            self.assertEqual(self.function(file, name).__module__, "onlyforced." + file)

    def test_arguments_have_the_names_of_the_interface(self):
        for file, name, named, _ in ROWS:
            parameters = inspect.signature(self.function(file, name)).parameters
            self.assertEqual(list(parameters), list(named), name)
            for parameter in parameters.values():
                self.assertEqual(parameter.kind, parameter.POSITIONAL_OR_KEYWORD)
                self.assertIs(parameter.default, parameter.empty)

    def test_arguments_by_position_and_by_name(self):
        for file, name, named, wanted in ROWS:
            function = self.function(file, name)
            exactly(self, function(*named.values()), wanted)
            exactly(self, function(**named), wanted)
            exactly(self, function(**dict(reversed(named.items()))), wanted)
            first, *rest = named
            exactly(self, function(named[first], **{key: named[key] for key in rest}), wanted)

    def test_nothing_handed_in_is_changed(self):
        for file, name, named, _ in ROWS:
            before = repr(named)
            self.function(file, name)(**named)
            self.assertEqual(repr(named), before)

    def test_equal_calls_return_the_same(self):
        for file, name, named, _ in ROWS:
            function = self.function(file, name)
            exactly(self, function(**named), function(**named))


# Each row: the file, the class or function, its arguments by name, and those that go by name only.
HOUSES = (
    ("House", {"book": M, "lot": (0, 2), "page": (0, 0, 1), "number": 4}),
    ("reopened", {"book": M, "lot": (0, 2), "number": 4, "row": ((0, 0, (0, 0)), (2, 1, (0, 0)))}),
)


class HouseTest(unittest.TestCase):
    def signature(self, thing):
        """The names of the parameters that go by place, then those that go by name, with defaults."""
        parameters = [one for one in inspect.signature(thing).parameters.values() if one.name != "self"]
        places = [one.name for one in parameters if one.kind == one.POSITIONAL_OR_KEYWORD]
        named = {one.name: one.default for one in parameters if one.kind == one.KEYWORD_ONLY}
        self.assertEqual(len(places) + len(named), len(parameters))
        return places, named

    def test_where_they_stand_and_the_names_of_the_arguments(self):
        for name, named in HOUSES:
            thing = getattr(houses, name)
            self.assertEqual(thing.__module__, "onlyforced.houses")
            self.assertEqual(self.signature(thing), (list(named), {"sparing": False}))
        self.assertTrue(inspect.isclass(houses.House))
        self.assertTrue(inspect.isfunction(houses.reopened))

    def test_each_method_stands_in_the_class_itself(self):
        wanted = {
            "wish": (["wish"], {}), "letter": ([], {}), "hear": (["letter"], {"only": None}),
            "shown": ([], {}), "row": ([], {}), "lot": ([], {}),
        }
        for name, told in wanted.items():
            self.assertTrue(inspect.isfunction(vars(houses.House)[name]), name)
            self.assertEqual(self.signature(vars(houses.House)[name]), told, name)

    def test_arguments_by_position_and_by_name(self):
        for name, named in HOUSES:
            thing = getattr(houses, name)
            before = repr(named)
            for house in (
                thing(*named.values()), thing(**named), thing(**dict(reversed(named.items()))),
                thing(*named.values(), sparing=False), thing(**named, sparing=False),
            ):
                exactly(self, house.row(), ((0, 0, (0, 0)), (2, 1, (0, 0))))
                letter = house.wish(wish=((0, 1),))
                exactly(self, letter, ((0, 1, 2), ((0, 1, (1, 4)), (1, 0, (1, 4)), (2, 0, (1, 4)))))
                exactly(self, house.hear(letter=letter, only=None), ())
                exactly(self, house.hear(letter=((0, 1, 2), ((0, 0, (9, 9)),)), only=(0,)), (0,))
                exactly(self, house.lot(), (0, 2))
                exactly(self, house.shown(), ((0, 0), (2, 0)))
                exactly(self, house.letter(), ((0, 2), ((0, 0, (9, 9)), (2, 0, (1, 4)))))
            self.assertEqual(repr(named), before)

# Each row: the file, the class, its arguments by name, and for each method the names of its own.
CLASSES = (
    ("shelves", "Shelf", {"row": ((0, 1, (0, 0)),)}, {
        "steps": ["row"], "write": ["write"], "told": [], "places": [],
    }),
    ("worlds", "World", {"book": M, "page": (0, 0, 1), "lots": ((0, 1),), "manner": "whole"}, {
        "wish": ["h", "wish"], "send": ["h"], "bring": ["letter", "h"], "part": ["letter", "h", "lot"],
        "shown": ["h"], "row": ["h"], "holds": ["h"], "letter": ["number"], "letters": [], "heard": ["h"],
    }),
    ("shared", "SharedHouse", {"book": M, "page": (0, 0, 1), "number": 3}, {
        "wish": ["wish"], "letter": [], "hear": ["letter"], "shown": [],
    }),
    ("ledger", "Ledger", {"book": M, "page": (0, 0, 1)}, {
        "put": ["stamp", "wish"], "withdraw": ["stamp"], "restore": ["stamp"], "deeds": [], "page": [],
        "page_of": ["stamps"], "back": [], "again": [],
    }),
    ("session", "Session", {"names": NAMES, "book": T_BOOK, "page": (0, 1), "many": 2}, {"row": ["text"], "text": []}),
)


class ClassesTest(unittest.TestCase):
    def parameters(self, function):
        """The names of the parameters but the first one, all of which go by place and by name."""
        parameters = list(inspect.signature(function).parameters.values())[1:]
        for parameter in parameters:
            self.assertEqual(parameter.kind, parameter.POSITIONAL_OR_KEYWORD)
            self.assertIs(parameter.default, parameter.empty)
        return [parameter.name for parameter in parameters]

    def test_where_they_stand_and_the_names_of_the_arguments(self):
        for file, name, named, methods in CLASSES:
            made = getattr(importlib.import_module("onlyforced." + file), name)
            self.assertTrue(inspect.isclass(made))
            self.assertEqual(made.__module__, "onlyforced." + file)
            self.assertEqual(self.parameters(made.__init__), list(named))
            for method, names in methods.items():
                self.assertTrue(inspect.isfunction(vars(made)[method]), method)
                self.assertEqual(self.parameters(vars(made)[method]), names, method)

    def test_arguments_by_position_and_by_name(self):
        for file, name, named, _ in CLASSES:
            made = getattr(importlib.import_module("onlyforced." + file), name)
            before = repr(named)
            for thing in (made(*named.values()), made(**named), made(**dict(reversed(named.items())))):
                self.assertIsInstance(thing, made)
            self.assertEqual(repr(named), before)


if __name__ == "__main__":
    unittest.main()
