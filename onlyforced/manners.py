"""Which manners of worlds keep a book's law in every run, and runs in which others do not [48]."""

from onlyforced.closing import tight_of
from onlyforced.leads import closed_kept
from onlyforced.worlds import must_be_manner


def _first_between(left):
    """The first saying of two settings of the tight book, None if it has none."""
    for saying in tight_of(left)[1]:
        if saying[0] != "own":
            return saying
    return None


def kept_by(book, manner):
    """Whether each house holds at each moment of all runs of worlds of this manner."""
    left = closed_kept(book)
    must_be_manner(manner)
    return manner == "whole" or _first_between(left) is None


def _apart(left, saying):
    """Two pairs of a setting and a worth: the first one forces another worth than the second has.

    By a tight book both are on lawful pages.
    """
    if saying[0] == "tied":
        _, i, j, pairs = saying
        return (i, pairs[0][0]), (j, pairs[1][1])
    _, i, a, j, b = saying
    others = [worth for worth in left.worths(i) if worth != a]
    return (i, others[0]), (j, [worth for worth in left.worths(j) if worth != b][0])


def bad_run(book, manner):
    """A page and a script behind which house 1 of two does not hold, None if all always hold."""
    left = closed_kept(book)
    must_be_manner(manner)
    saying = None if manner == "whole" else _first_between(left)
    if saying is None:
        return None
    wanted, other = _apart(left, saying)
    page = left.least_page((other,))
    if manner == "torn":
        return (page, (("wish", 0, (wanted,)), ("part", 0, 1, (wanted[0],))))
    # House 1 wishes what it shows, and so writes that one setting alone, with a newer stamp than
    # the worth there has that house 0 forces.
    return (page, (("wish", 0, (wanted,)), ("wish", 1, (other,)), ("bring", 0, 1)))
