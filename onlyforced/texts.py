"""Pages and edits as texts [64] [65]."""

from onlyforced.edits import made_edit
from onlyforced.errors import Twice
from onlyforced.lawtexts import made_names, sizes_of
from onlyforced.pages import made_page
from onlyforced.words import Reader


def take_edit(reader, names):
    """Read the text of an edit up to a word that does not belong there."""
    if reader.passes("-"):
        return ()
    worths = {}
    while not worths or reader.passes(","):
        place = reader.place()
        setting = reader.setting(names)
        if setting in worths:
            raise Twice(place)
        worths[setting] = reader.worth(names, setting)
    return tuple(sorted(worths.items()))


def read_edit(names, text):
    """The edit that a text tells."""
    made_names(names)
    reader = Reader(text)
    edit = take_edit(reader, names)
    reader.end()
    return edit


def edit_text(names, edit):
    """The text of an edit over right names."""
    words = []
    for setting, worth in edit:
        name, worths = names[setting]
        words += [",", name, worths[worth]]
    return " ".join(words[1:]) if words else "-"


def print_edit(names, edit):
    """The text of an edit."""
    return edit_text(names, made_edit(sizes_of(names), edit))


def read_page(names, text):
    """The page that a text tells."""
    made_names(names)
    reader = Reader(text)
    page = tuple([reader.worth(names, setting) for setting in range(len(names))])
    reader.end()
    return page


def page_text(names, page):
    """The text of a page over right names."""
    return " ".join([worths[worth] for (name, worths), worth in zip(names, page)])


def print_page(names, page):
    """The text of a page."""
    return page_text(names, made_page(sizes_of(names), page))
