"""Whether a table is writable [10], and its book if it is [11]."""

from itertools import combinations, product

from onlyforced.closing import book_from
from onlyforced.edits import fits, whole
from onlyforced.errors import NotWritable
from onlyforced.leads import closed
from onlyforced.pages import move
from onlyforced.sorts import sort_of
from onlyforced.tables import made_table, pairs_at


def _first_with(pages, edit):
    """The first of the pages that has all worths of the edit, None if none has."""
    for page in pages:
        if fits(page, edit):
            return page
    return None


def _three_at(pages, i, j):
    """Three of the pages whose move has at i and j what no page has there.

    There are such ones if the pairs of the pages at i and j fit no sort.
    """
    page_with = {(page[i], page[j]): page for page in pages}
    pairs = sorted(page_with)
    # The move goes setting by setting, so that of pairs tells what it is at i and j.
    for x, y, z in product(pairs, pairs, pairs):
        if move(x, y, z) not in page_with:
            return (page_with[x], page_with[y], page_with[z])
    return None


def _without(edit, pair):
    """The edit without one of its pairs."""
    return tuple([other for other in edit if other != pair])


def _three_to(pages, page):
    """Three of the pages whose move is none of them.

    The page is none of them, but has at each two settings what some of them has there.
    """
    told = whole(page)
    for pair in whole(page):
        if _first_with(pages, _without(told, pair)) is None:
            told = _without(told, pair)
    # Now no page has all that is told, but for each pair some page has all the others. Of three
    # pages that lack one each, two have each pair, and so the move has all: it is no page.
    return tuple([_first_with(pages, _without(told, pair)) for pair in told[:3]])


def _told(table):
    """The tight book of a right table, and None; or None, and three pages."""
    sizes, pages = table
    pairs = {(i, i): pairs_at(pages, i, i) for i in range(len(sizes))}
    for i, j in combinations(range(len(sizes)), 2):
        pairs[(i, j)] = pairs_at(pages, i, j)
        if sort_of(pairs[(i, j)]) is None:
            return None, _three_at(pages, i, j)
    book = book_from(sizes, pairs)
    # All pages of the table keep the book. If others do, one is among the first of one more.
    for page in closed(book).least_pages(len(pages) + 1):
        if page not in pages:
            return None, _three_to(pages, page)
    return book, None


def writable(table):
    """Whether the move of each three lawful pages is lawful."""
    return three(table) is None


def three(table):
    """Three lawful pages whose move is not lawful, None if the table is writable."""
    _, pages = _told(made_table(table))
    return pages


def book_of(table):
    """The tight book that just the pages of a writable table keep."""
    book, _ = _told(made_table(table))
    if book is None:
        raise NotWritable(0)
    return book


def why(table):
    """("book", its tight book) if the table is writable, otherwise ("three", x, y, z)."""
    book, pages = _told(made_table(table))
    if book is None:
        return ("three", *pages)
    return ("book", book)
