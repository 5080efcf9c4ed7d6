"""Wishes that stand [33], visits of their hands to a page [35], and what is there in the end [36]."""

from itertools import permutations

from onlyforced.edits import edit_fault, over
from onlyforced.errors import BadVisits, BadWishes, TooMany, Unmet
from onlyforced.forms import number_within, tuple_sized
from onlyforced.leads import closed_kept, must_be_lawful
from onlyforced.pages import changed, made_page

MOST_WISHES = 12
MOST_VISITS = 200
MOST_IN_ORDERS = 6


def met_wishes(left, thing):
    """Return thing, if it is wishes, each of which some page that is left has."""
    if not tuple_sized(thing, 1, MOST_WISHES):
        raise BadWishes(-1)
    for index, wish in enumerate(thing):
        if edit_fault(left.sizes, wish) is not None:
            raise BadWishes(index)
    # Only once all are wishes it is asked whether they can be met.
    for index, wish in enumerate(thing):
        if left.bar(wish) is not None:
            raise Unmet(index)
    return thing


def made_wishes(book, thing):
    """Return thing, if it is wishes, each of which can be met."""
    return met_wishes(closed_kept(book), thing)


def edits_at(book, page, wishes):
    """The edits of the wishes, which are to be laid over a lawful page."""
    left = closed_kept(book)
    made_page(left.sizes, page)
    met_wishes(left, wishes)
    must_be_lawful(left, page)
    return [left.edit_for(wish) for wish in wishes]


def over_all(page, edits):
    """The page with the edits laid over it, one behind another."""
    for edit in edits:
        page = over(page, edit)
    return page


def _edits_of_visits(edits, visits):
    """The edits that are laid at the visits, in their order."""
    if not tuple_sized(visits, 0, MOST_VISITS):
        raise BadVisits(-1)
    for place, visit in enumerate(visits):
        if not number_within(visit, 0, len(edits) - 1):
            raise BadVisits(place)
    return [edits[visit] for visit in visits]


def after(book, page, wishes, visits):
    """The page behind the visits."""
    return over_all(page, _edits_of_visits(edits_at(book, page, wishes), visits))


def changes(book, page, wishes, visits):
    """For each setting how many of the visits change its worth."""
    edits = edits_at(book, page, wishes)
    counts = [0 for _ in page]
    for edit in _edits_of_visits(edits, visits):
        new = over(page, edit)
        for setting in changed(page, new):
            counts[setting] += 1
        page = new
    return tuple(counts)


def ends(book, page, wishes):
    """All pages that can stand behind visits in which each hand came, rising."""
    edits = edits_at(book, page, wishes)
    if len(edits) > MOST_IN_ORDERS:
        raise TooMany(len(edits))
    # Of each setting the last one who told it counts, so each hand's last visit alone does.
    return tuple(sorted({over_all(page, order) for order in permutations(edits)}))
