"""Tight books [21], books that are alike, and what follows from a book [22]."""

from itertools import combinations

from onlyforced.books import made_book, saying_right
from onlyforced.errors import BadSaying, Unlike
from onlyforced.leads import closed
from onlyforced.sorts import sort_of


def _told_by(sort, i, j, pairs):
    """The sayings, one or none, that tell pairs of this sort at two settings."""
    if sort[0] == "tied":
        return [("tied", i, j, pairs)]
    if sort[0] == "either":
        return [("either", i, sort[1], j, sort[2])]
    return []


def book_from(sizes, pairs):
    """The tight book of pages that have just these pairs, each of which fits a sort.

    The pairs of i and j are kept in a dict under (i, j), for all i up to j.
    """
    sayings = []
    for setting in range(len(sizes)):
        sayings.append(("own", setting, tuple([a for a, b in pairs[(setting, setting)]])))
    for i, j in combinations(range(len(sizes)), 2):
        sayings += _told_by(sort_of(pairs[(i, j)]), i, j, pairs[(i, j)])
    return (sizes, tuple(sayings))


def tight(book):
    """The tight book that the same pages keep, None if no page does."""
    left = closed(made_book(book))
    if left is None:
        return None
    settings = range(len(left.sizes))
    return book_from(left.sizes, {(i, j): left.pairs(i, j) for i in settings for j in settings if i <= j})


def alike(one, two):
    """Whether the same pages keep two books."""
    if made_book(one)[0] != made_book(two)[0]:
        raise Unlike(0)
    return tight(one) == tight(two)


def _own_breaches(sizes, saying):
    """The edits of one setting with which a page breaks an own saying."""
    _, i, worths = saying
    return [((i, a),) for a in range(sizes[i]) if a not in worths]


def _tied_breaches(sizes, saying):
    """The edits of two settings with which a page breaks a tied saying."""
    _, i, j, pairs = saying
    return [((i, a), (j, b)) for a in range(sizes[i]) for b in range(sizes[j]) if (a, b) not in pairs]


def _either_breaches(sizes, saying):
    """The edits of two settings with which a page breaks an either saying."""
    _, i, named, j, other = saying
    worths = [b for b in range(sizes[j]) if b != other]
    return [((i, a), (j, b)) for a in range(sizes[i]) if a != named for b in worths]


def _breaches(sizes, saying):
    """Edits, such that a page breaks the saying exactly if it fits one of them."""
    if saying[0] == "own":
        return _own_breaches(sizes, saying)
    if saying[0] == "tied":
        return _tied_breaches(sizes, saying)
    return _either_breaches(sizes, saying)


def against(book, saying):
    """The least page that keeps the book and not the saying, None if there is none."""
    sizes, _ = made_book(book)
    if not saying_right(sizes, saying):
        raise BadSaying(0)
    left = closed(book)
    if left is None:
        return None
    pages = [left.least_page(edit) for edit in _breaches(sizes, saying)]
    return min([page for page in pages if page is not None], default=None)


def follows(book, saying):
    """Whether all pages that keep the book keep the saying."""
    return against(book, saying) is None
