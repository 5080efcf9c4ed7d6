"""Edits that are laid one behind another, and whether two such rows of them do alike [38]."""

from onlyforced.edits import edit_fault, laid, over
from onlyforced.errors import BadEdits
from onlyforced.forms import tuple_sized
from onlyforced.leads import closed_kept
from onlyforced.pages import made_sizes

MOST_EDITS = 60


def made_edits(sizes, thing):
    """Return thing, if it is a tuple of edits over sizes."""
    made_sizes(sizes)
    if not tuple_sized(thing, 0, MOST_EDITS):
        raise BadEdits(-1)
    for index, edit in enumerate(thing):
        if edit_fault(sizes, edit) is not None:
            raise BadEdits(index)
    return thing


def laid_all(sizes, edits):
    """The one edit that leaves of each page what all the edits leave of it."""
    told = ()
    for edit in made_edits(sizes, edits):
        told = laid(told, edit)
    return told


def part_page(book, one, two):
    """Some lawful page that the two tuples of edits leave unlike, None if there is none."""
    left = closed_kept(book)
    first, second = laid_all(left.sizes, one), laid_all(left.sizes, two)
    # What they leave at a setting is told by the worth there, so a page for each worth is enough.
    for setting in range(len(left.sizes)):
        for worth in left.worths(setting):
            page = left.least_page(((setting, worth),))
            if over(page, first) != over(page, second):
                return page
    return None


def same(book, one, two):
    """Whether the two tuples of edits leave the same page of each lawful page."""
    return part_page(book, one, two) is None
