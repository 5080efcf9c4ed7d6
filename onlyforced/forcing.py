"""Which wishes of a book can be met [26], what they force [27], why, and what is safe [28]."""

from onlyforced.edits import made_edit, tells
from onlyforced.leads import CLASH, closed_kept, must_be_met, pairs_in
from onlyforced.pages import made_setting


def bar(book, wish):
    """The least pair of settings of the wish that no lawful page has so, None if it can be met."""
    left = closed_kept(book)
    return left.bar(made_edit(left.sizes, wish))


def can_meet(book, wish):
    """Whether some lawful page has all worths of the wish."""
    left = closed_kept(book)
    return left.can_meet(made_edit(left.sizes, wish))


def fixed(book):
    """The edit of the settings at which all lawful pages have one worth."""
    return closed_kept(book).forced(())


def _left_with(book, wish):
    """What is left of a book that some page keeps, some one with all worths of the wish."""
    left = closed_kept(book)
    must_be_met(left, made_edit(left.sizes, wish))
    return left


def forced(book, wish):
    """The edit of all settings on which the lawful pages that have the wish agree."""
    return _left_with(book, wish).forced(wish)


def edit_for(book, wish):
    """The edit of the wish: its pairs, and what it forces of the settings that are not fixed."""
    return _left_with(book, wish).edit_for(wish)


def reason(book, wish, setting):
    """Why the edit of the wish tells the setting, None if it does not."""
    left = closed_kept(book)
    made_edit(left.sizes, wish)
    made_setting(left.sizes, setting)
    must_be_met(left, wish)
    if tells(wish, setting):
        return ("wish",)
    # What a wish forces at a setting that is not fixed, one of its pairs alone forces.
    for pair in wish:
        if tells(left.edit_for((pair,)), setting):
            return ("by", pair[0])
    return None


def breaks_in(book, edit):
    """Some lawful page that is not lawful with the edit laid over it, None if the edit is safe."""
    left = closed_kept(book)
    made_edit(left.sizes, edit)
    led = left.led_by(edit)
    if led == CLASH:
        return left.least_page(())
    # What else stands on a page is as it was, so one worth that does not stand beside the edit
    # has to be there.
    for setting, worth in pairs_in(led):
        if not tells(edit, setting):
            for other in left.worths(setting):
                if other != worth:
                    return left.least_page(((setting, other),))
    return None


def safe_in(book, edit):
    """Whether each lawful page is lawful with the edit laid over it."""
    return breaks_in(book, edit) is None
