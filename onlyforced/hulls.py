"""The hull of a table: its pages, and all that moves make of them [31] [32]."""

from onlyforced.closing import book_from
from onlyforced.errors import TooMany
from onlyforced.leads import closed
from onlyforced.pages import made_page, move
from onlyforced.sorts import sort_of
from onlyforced.tables import MOST_PAGES, made_table, pairs_at


def _widened(pairs):
    """The smallest pairs with a sort that have the pairs among them, and no new first or second."""
    if sort_of(pairs) is not None:
        return pairs
    firsts, seconds = sorted({a for a, b in pairs}), sorted({b for a, b in pairs})
    grid = [(a, b) for a in firsts for b in seconds]
    for a, b in grid:
        if all([pair[0] == a or pair[1] == b for pair in pairs]):
            return tuple([pair for pair in grid if pair[0] == a or pair[1] == b])
    return tuple(grid)


def _hull_of(sizes, pages):
    """The tight book of the hull of right pages."""
    pairs = {}
    for i in range(len(sizes)):
        for j in range(i, len(sizes)):
            pairs[(i, j)] = _widened(pairs_at(pages, i, j))
    return book_from(sizes, pairs)


def hull(table):
    """The tight book that just the pages of the hull keep."""
    sizes, pages = made_table(table)
    return _hull_of(sizes, pages)


def hull_table(table):
    """The hull as a table."""
    sizes, pages = made_table(table)
    more = closed(_hull_of(sizes, pages)).least_pages(MOST_PAGES + 1)
    if len(more) > MOST_PAGES:
        raise TooMany(MOST_PAGES + 1)
    return (sizes, more)


def _two_alike(pairs, place):
    """For each worth that two of the pairs have at the place, the first two that have it."""
    first, second = {}, {}
    for pair in pairs:
        if pair[place] not in first:
            first[pair[place]] = pair
        elif pair[place] not in second:
            second[pair[place]] = pair
    return [(first[worth], second[worth]) for worth in second]


class Moves:
    """Pages of a table and those that were made of them, and rows that tell how."""

    def __init__(self, pages):
        self._there = {page: True for page in pages}
        self.rows = []

    def made(self, x, y, z):
        """The move of three pages that are there; it is there from now on."""
        page = move(x, y, z)
        if page not in self._there:
            self._there[page] = True
            self.rows.append((x, y, z))
        return page

    def _wider(self, found):
        """Found, a dict of pages by their worths at two settings, and some that moves make of them."""
        wider = {pair: found[pair] for pair in found}
        # Two pairs with one part alike make pairs of this part and all that stand at the other place.
        for x, y in _two_alike(found, 0) + _two_alike(found, 1):
            for z in found:
                pair = move(x, y, z)
                if pair not in wider:
                    wider[pair] = self.made(found[x], found[y], found[z])
        return wider

    def page_with(self, page, i, j):
        """A page that has at i and j what the page of the hull has there, made if need be."""
        found = {(there[i], there[j]): there for there in self._there}
        # The pairs of the hull are what moves make of the pairs of the table, so this ends.
        while (page[i], page[j]) not in found:
            found = self._wider(found)
        return found[(page[i], page[j])]

    def reach(self, page):
        """Make a page of the hull."""
        # Begun is as the page at all settings ahead of k, other at those ahead of j and at k. At
        # each setting up to j, and at k, two of the three in the move are as the page, so it is.
        begun = self.page_with(page, 0, 0)
        for k in range(1, len(page)):
            other = self.page_with(page, 0, k)
            for j in range(1, k):
                other = self.made(other, begun, self.page_with(page, j, k))
            begun = other


def _needed(rows, page):
    """Those of the rows that the page needs to be made."""
    needed = {page: True}
    kept = []
    for x, y, z in rows[::-1]:
        if move(x, y, z) in needed:
            kept.append((x, y, z))
            for one in (x, y, z):
                needed[one] = True
    return tuple(kept[::-1])


def made_by(table, page):
    """Triples of pages whose moves come to the page, None if it is not in the hull."""
    sizes, pages = made_table(table)
    made_page(sizes, page)
    _, more = hull_table(table)
    if page not in more:
        return None
    moves = Moves(pages)
    moves.reach(page)
    return _needed(moves.rows, page)
