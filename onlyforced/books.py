"""Sayings of one or two settings [19], and books of them, which tell a law [20]."""

from onlyforced.errors import BadBook, BadSaying
from onlyforced.forms import plain_pair, rises, tuple_sized
from onlyforced.pages import is_page, is_sizes, made_page, made_sizes, setting_of, worth_of

MOST_SAYINGS = 400


def _own_right(sizes, saying):
    """Whether a tuple that begins with "own" is a saying."""
    if len(saying) != 3:
        return False
    _, setting, worths = saying
    if not setting_of(sizes, setting) or not isinstance(worths, tuple) or not worths:
        return False
    return all([worth_of(sizes, setting, worth) for worth in worths]) and rises(worths)


def _settings_rise(sizes, i, j):
    """Whether i and j are settings of right sizes, i below j."""
    return setting_of(sizes, i) and setting_of(sizes, j) and i < j


def _worth_pair(sizes, i, j, thing):
    """Whether thing is a pair of a worth of i and a worth of j."""
    return plain_pair(thing) and worth_of(sizes, i, thing[0]) and worth_of(sizes, j, thing[1])


def _tied_right(sizes, saying):
    """Whether a tuple that begins with "tied" is a saying."""
    if len(saying) != 4:
        return False
    _, i, j, pairs = saying
    if not _settings_rise(sizes, i, j) or not isinstance(pairs, tuple) or not pairs:
        return False
    if not all([_worth_pair(sizes, i, j, pair) for pair in pairs]):
        return False
    # Pairs rise and have unlike firsts exactly if their firsts rise.
    return rises([a for a, b in pairs]) and len({b for a, b in pairs}) == len(pairs)


def _either_right(sizes, saying):
    """Whether a tuple that begins with "either" is a saying."""
    if len(saying) != 5:
        return False
    _, i, a, j, b = saying
    return _settings_rise(sizes, i, j) and worth_of(sizes, i, a) and worth_of(sizes, j, b)


def saying_right(sizes, thing):
    """Whether thing is a saying over right sizes."""
    if not isinstance(thing, tuple) or not thing:
        return False
    if thing[0] == "either":
        return _either_right(sizes, thing)
    if thing[0] == "own":
        return _own_right(sizes, thing)
    return thing[0] == "tied" and _tied_right(sizes, thing)


def is_saying(sizes, thing):
    """Whether sizes are right, and thing is a saying over them."""
    return is_sizes(sizes) and saying_right(sizes, thing)


def _book_form(thing):
    """Whether thing is a pair whose second part can be the sayings of a book."""
    return plain_pair(thing) and tuple_sized(thing[1], 0, MOST_SAYINGS)


def _sayings_fault(sizes, sayings):
    """What BadSaying tells of the sayings of a book over right sizes, None if they are right."""
    for index, saying in enumerate(sayings):
        if not saying_right(sizes, saying):
            return index
    return None


def made_book(thing):
    """Return thing, if it is a book."""
    if not _book_form(thing):
        raise BadBook(-1)
    sizes, sayings = thing
    fault = _sayings_fault(made_sizes(sizes), sayings)
    if fault is not None:
        raise BadSaying(fault)
    return thing


def is_book(thing):
    """Whether thing is a book."""
    return _book_form(thing) and is_sizes(thing[0]) and _sayings_fault(thing[0], thing[1]) is None


def _kept(saying, page):
    """Whether the page keeps a right saying."""
    if saying[0] == "own":
        return page[saying[1]] in saying[2]
    if saying[0] == "tied":
        return (page[saying[1]], page[saying[2]]) in saying[3]
    return page[saying[1]] == saying[2] or page[saying[3]] == saying[4]


def _first_broken(sayings, page):
    """The first index of a saying that the page does not keep, None if it keeps all."""
    for index, saying in enumerate(sayings):
        if not _kept(saying, page):
            return index
    return None


def keeps(book, page):
    """Whether book is a book, and page a page over its sizes that keeps it."""
    return is_book(book) and is_page(book[0], page) and _first_broken(book[1], page) is None


def broken(book, page):
    """The first index of a saying that the page does not keep, None if it keeps the book."""
    sizes, sayings = made_book(book)
    return _first_broken(sayings, made_page(sizes, page))
