"""Sessions, which keep a world of houses by words [67] to [71]."""

from onlyforced.books import made_book
from onlyforced.closing import tight
from onlyforced.errors import BadMany, Refused, Unlike
from onlyforced.forcing import bar, edit_for, reason
from onlyforced.forms import number_within
from onlyforced.lawtexts import made_names, print_book, sizes_of
from onlyforced.leads import closed_kept, must_be_lawful
from onlyforced.pages import made_page
from onlyforced.quarrels import parting
from onlyforced.texts import edit_text, page_text, take_edit
from onlyforced.words import Reader
from onlyforced.worlds import World

MOST_HOUSES = 8

# What stands behind the first word of a row.
SHAPES = {
    "wish": ("number", "edit"),
    "send": ("number",),
    "bring": ("number", "number"),
    "page": ("number",),
    "heard": ("number",),
    "can": ("edit",),
    "force": ("edit",),
    "why": ("edit", ":", "setting"),
    "part": ("edit", ":", "edit"),
    "law": (),
}


def _told(words):
    """The words side by side, "-" if there is none."""
    return " ".join(words) if words else "-"


def _refusal(name, what):
    """The answer to what is refused, with the name of the error's class."""
    parts = what if isinstance(what, tuple) else (what,)
    return " ".join(["refused:", name] + [str(part) for part in parts])


class Session:
    """A world of houses of all settings, and names by which it is spoken of."""

    def __init__(self, names, book, page, many):
        made_names(names)
        sizes, _ = made_book(book)
        if sizes_of(names) != sizes:
            raise Unlike(0)
        left = closed_kept(book)
        made_page(sizes, page)
        must_be_lawful(left, page)
        if not number_within(many, 1, MOST_HOUSES):
            raise BadMany(many)
        self.names = names
        self.book = book
        self.many = many
        self.world = World(book, page, (tuple(range(len(sizes))),) * many, "whole")

    def _names_of(self, settings):
        """The names of settings."""
        return [self.names[setting][0] for setting in settings]

    def _page_of(self, h):
        """The text of the page that a house shows."""
        return page_text(self.names, [worth for setting, worth in self.world.shown(h)])

    def _read_part(self, reader, kind):
        """Read one part of a row."""
        if kind == "number":
            return reader.number()
        if kind == "edit":
            return take_edit(reader, self.names)
        if kind == "setting":
            return reader.setting(self.names)
        return reader.one_of((kind,))

    def _about_houses(self, word, parts):
        """The answer to a row about houses."""
        if word == "wish":
            return f"letter {self.world.wish(parts[0], parts[1])}"
        if word == "send":
            return f"letter {self.world.send(parts[0])}"
        if word == "bring":
            return _told(self._names_of(self.world.bring(parts[0], parts[1])))
        if word == "page":
            return self._page_of(parts[0])
        return _told([str(number) for number in self.world.heard(parts[0])])

    def _why(self, wish, setting):
        """The answer to a row that asks why."""
        told = reason(self.book, wish, setting)
        if told is None:
            return "free"
        return " ".join([told[0]] + self._names_of(told[1:]))

    def _can(self, wish):
        """The answer to a row that asks what can be met."""
        pair = bar(self.book, wish)
        if pair is None:
            return "yes"
        return " ".join(["no"] + self._names_of(sorted(set(pair))))

    def _about_law(self, word, parts):
        """The answer to a row about the law."""
        if word == "can":
            return self._can(parts[0])
        if word == "force":
            return edit_text(self.names, edit_for(self.book, parts[0]))
        if word == "why":
            return self._why(parts[0], parts[2])
        if word == "part":
            return _told(self._names_of(parting(self.book, parts[0], parts[2])))
        return print_book(self.names, tight(self.book))

    def _answer(self, reader):
        """The answer to a row, which is read to its end ahead of all else."""
        word = reader.one_of(list(SHAPES))
        parts = [self._read_part(reader, kind) for kind in SHAPES[word]]
        reader.end()
        if word in ("wish", "send", "bring", "page", "heard"):
            return self._about_houses(word, parts)
        return self._about_law(word, parts)

    def row(self, text):
        """Do or ask what a row tells, and return the answer."""
        try:
            return self._answer(Reader(text))
        except Refused as error:
            return _refusal(error.__class__.__name__, error.what)

    def text(self):
        """How many houses there are, and the texts of their pages."""
        return " | ".join([f"houses {self.many}"] + [self._page_of(h) for h in range(self.many)])
