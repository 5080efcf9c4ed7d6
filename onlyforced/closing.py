"""Tight books [21], books that are alike, and what follows from a book [22]."""

from itertools import combinations

from onlyforced.books import made_book, saying_right
from onlyforced.errors import BadSaying, Unlike
from onlyforced.leads import closed, pairs_in, worths_at
from onlyforced.pages import mask_of, spot_of
from onlyforced.sorts import sort_of


def _told_by(sort, i, j, pairs):
    """The sayings, one or none, that tell pairs of this sort at two settings."""
    if sort[0] == "tied":
        return [("tied", i, j, pairs)]
    if sort[0] == "either":
        return [("either", i, sort[1], j, sort[2])]
    return []


def book_from(sizes, pairs):
    """The tight book of pages that have just these pairs, each of which fits a sort.

    The pairs of i and j are kept in a dict under (i, j), for all i up to j.
    """
    sayings = []
    for setting in range(len(sizes)):
        sayings.append(("own", setting, tuple([a for a, b in pairs[(setting, setting)]])))
    for i, j in combinations(range(len(sizes)), 2):
        sayings += _told_by(sort_of(pairs[(i, j)]), i, j, pairs[(i, j)])
    return (sizes, tuple(sayings))


def _eithers(i, worths, leds, covers):
    """The either sayings of i and further settings, under the further ones.

    One worth of i leads nowhere there, and all others to the same worth.
    """
    found = {}
    for at, a in enumerate(worths):
        led = ~covers[at]
        for other in leds[:at] + leds[at + 1:]:
            led &= other
        for j, b in pairs_in(led):
            found[j] = ("either", i, a, j, b)
    return found


def _ties(i, worths, leds, covers):
    """The tied sayings of i and further settings, under the further ones: all worths of i lead there."""
    everywhere = covers[0]
    for cover in covers:
        everywhere &= cover
    found = {}
    # One worth leads to just one of each of these settings.
    for j, _ in pairs_in(leds[0] & everywhere):
        found[j] = ("tied", i, j, tuple(zip(worths, worths_at(leds, j))))
    return found


def _sayings_beyond(left, i, worths, beyond):
    """The sayings of a tight book of i and the settings of which beyond has the worths."""
    leds = [left.led(spot_of(i, a)) & beyond for a in worths]
    if not any(leds):
        return []
    covers = [led | left.away(spot_of(i, a)) & beyond for a, led in zip(worths, leds)]
    found = _eithers(i, worths, leds, covers)
    found.update(_ties(i, worths, leds, covers))
    return [found[j] for j in sorted(found)]


def tight_of(left):
    """The tight book of what is left of a book that some page keeps."""
    worths = [tuple(left.worths(i)) for i in range(len(left.sizes))]
    sayings = [("own", i, told) for i, told in enumerate(worths)]
    # A fixed setting is free beside all others.
    loose = [(i, told) for i, told in enumerate(worths) if len(told) > 1]
    beyond = sum([mask_of(i, told) for i, told in loose])
    for i, told in loose:
        beyond &= ~mask_of(i, told)
        sayings += _sayings_beyond(left, i, told, beyond)
    return (left.sizes, tuple(sayings))


def tight(book):
    """The tight book that the same pages keep, None if no page does."""
    left = closed(made_book(book))
    return None if left is None else tight_of(left)


def alike(one, two):
    """Whether the same pages keep two books."""
    if made_book(one)[0] != made_book(two)[0]:
        raise Unlike(0)
    left, other = closed(one), closed(two)
    if left is None or other is None:
        return left is None and other is None
    # Which worths stand together, two by two, tells all pages.
    return left.standing() == other.standing()


def _own_breaches(sizes, saying):
    """The edits of one setting with which a page breaks an own saying."""
    _, i, worths = saying
    return [((i, a),) for a in range(sizes[i]) if a not in worths]


def _tied_breaches(sizes, saying):
    """The edits of two settings with which a page breaks a tied saying."""
    _, i, j, pairs = saying
    return [((i, a), (j, b)) for a in range(sizes[i]) for b in range(sizes[j]) if (a, b) not in pairs]


def _either_breaches(sizes, saying):
    """The edits of two settings with which a page breaks an either saying."""
    _, i, named, j, other = saying
    worths = [b for b in range(sizes[j]) if b != other]
    return [((i, a), (j, b)) for a in range(sizes[i]) if a != named for b in worths]


def _breaches(sizes, saying):
    """Edits, such that a page breaks the saying exactly if it fits one of them."""
    if saying[0] == "own":
        return _own_breaches(sizes, saying)
    if saying[0] == "tied":
        return _tied_breaches(sizes, saying)
    return _either_breaches(sizes, saying)


def _met_breaches(book, saying):
    """What is left of the book, and those breaches of a saying that lawful pages have."""
    sizes, _ = made_book(book)
    if not saying_right(sizes, saying):
        raise BadSaying(0)
    left = closed(book)
    if left is None:
        return left, []
    return left, [edit for edit in _breaches(sizes, saying) if left.can_meet(edit)]


def against(book, saying):
    """The least page that keeps the book and not the saying, None if there is none."""
    left, breaches = _met_breaches(book, saying)
    return min([left.least_page(edit) for edit in breaches], default=None)


def follows(book, saying):
    """Whether all pages that keep the book keep the saying."""
    _, breaches = _met_breaches(book, saying)
    return not breaches
