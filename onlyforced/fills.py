"""The least pages of a book, filled up without search [25]."""

from onlyforced.edits import made_edit
from onlyforced.errors import BadMany
from onlyforced.forms import number_within
from onlyforced.leads import closed_kept

MOST_TOLD = 200


def least_page(book, wish):
    """The least lawful page that has all worths of the wish, None if there is none."""
    left = closed_kept(book)
    return left.least_page(made_edit(left.sizes, wish))


def pages_of(book, most):
    """The least lawful pages, rising: as many as most tells, or all if there are fewer."""
    left = closed_kept(book)
    if not number_within(most, 0, MOST_TOLD):
        raise BadMany(most)
    return left.least_pages(most)
