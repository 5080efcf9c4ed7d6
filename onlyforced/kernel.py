"""Judges of the papers of the package [54] [55] [56].

They lean on nothing but pages, edits, tables and the form of books, so that what they find right
does not rest on how it was found.
"""

from itertools import combinations

from onlyforced.books import is_book, keeps
from onlyforced.edits import has_worth, is_edit, over
from onlyforced.forms import rises, tuple_sized
from onlyforced.pages import mask_of, move, page_fault, rows_of, setting_of, spot_of
from onlyforced.tables import among, forced_of, having, is_table, pairs_at


def three_right(table, x, y, z):
    """Whether x, y and z are lawful pages whose move is not lawful."""
    if not is_table(table) or not all([among(table, page) for page in (x, y, z)]):
        return False
    return not among(table, move(x, y, z))


def stuck_right(table, page, wish):
    """Whether no desk can grant the wish at the page by changing only what it forces."""
    if not is_table(table) or not among(table, page) or not is_edit(table[0], wish):
        return False
    return having(table, wish) != () and not among(table, over(page, forced_of(table, wish)))


def unsafe_right(table, edit, page):
    """Whether page is lawful, and is not with the edit laid over it."""
    if not is_table(table) or not is_edit(table[0], edit) or not among(table, page):
        return False
    return not among(table, over(page, edit))


def _three_there(sizes, there, row):
    """Whether row is a triple of pages that are there."""
    if not tuple_sized(row, 3, 3):
        return False
    # The form is asked ahead of the place, as (True, 0) equals (1, 0).
    return all([page_fault(sizes, page) is None and page in there for page in row])


def made_right(table, page, rows):
    """Whether moves make the page of the table's pages, row by row."""
    if not is_table(table) or page_fault(table[0], page) is not None or not isinstance(rows, tuple):
        return False
    there = {lawful: True for lawful in table[1]}
    made = page if page in there else None
    for row in rows:
        if not _three_there(table[0], there, row):
            return False
        made = move(row[0], row[1], row[2])
        there[made] = True
    return made == page


def _settings_of(saying):
    """The two settings of a tied or either saying."""
    return (saying[1], saying[2] if saying[0] == "tied" else saying[3])


def _tells(saying, pairs):
    """Whether a tight book has this saying, or none, of two settings with these pairs."""
    firsts = {a for a, b in pairs}
    seconds = {b for a, b in pairs}
    if len(pairs) == len(firsts) * len(seconds):
        return saying is None
    if saying is None:
        return False
    if saying[0] == "tied":
        return saying[3] == pairs
    # There are just so many pairs of a first and a second that have a ahead or b behind.
    _, _, a, _, b = saying
    return len(pairs) == len(firsts) + len(seconds) - 1 and all([x == a or y == b for x, y in pairs])


def _sayings_right(table, sayings):
    """Whether the sayings are those of a tight book, of all pairs that the table's pages have."""
    sizes, pages = table
    many = len(sizes)
    if len(sayings) < many or "own" in [saying[0] for saying in sayings[many:]]:
        return False
    for i, saying in enumerate(sayings[:many]):
        if saying != ("own", i, tuple(sorted({page[i] for page in pages}))):
            return False
    # The others come by rising settings, of each two settings at most one.
    two = [_settings_of(saying) for saying in sayings[many:]]
    if not rises(two):
        return False
    found = {settings: saying for settings, saying in zip(two, sayings[many:])}
    return all([_tells(found.get((i, j)), pairs_at(pages, i, j)) for i, j in combinations(range(many), 2)])


def _beside(pages):
    """For each worth on a page, under its spot, the mask of all worths that are on a page with it."""
    beside = {}
    for page in pages:
        spots = [spot_of(setting, worth) for setting, worth in enumerate(page)]
        mask = sum([1 << spot for spot in spots])
        for spot in spots:
            beside[spot] = beside.get(spot, 0) | mask
    return beside


def _no_others(table):
    """Whether there are no other pages of which each two worths are on a page of the table.

    That no begun page goes on to none, so that there is little to go through, follows from the
    sorts of the pairs; that no page is missed does not lean on it.
    """
    sizes, pages = table
    beside = _beside(pages)
    begun = [(0, sum([1 << spot for spot in beside]))]
    found = 0
    while begun and found <= len(pages):
        setting, let = begun.pop()
        if setting == len(sizes):
            found += 1
        else:
            spots = [spot_of(setting, worth) for worth in range(sizes[setting])]
            begun += [(setting + 1, let & beside[spot]) for spot in spots if let >> spot & 1]
    return found == len(pages)


def book_right(table, book):
    """Whether book is the tight book that just the table's pages keep."""
    if not is_table(table) or not is_book(book) or table[0] != book[0]:
        return False
    return _sayings_right(table, book[1]) and _no_others(table)


def _tied_lost(sizes, i, j, mates):
    """Each worth of i, by its spot, with the mask of the worths of j that are not its mate."""
    row = rows_of(sizes)[j]
    lost = []
    for a in range(sizes[i]):
        mate = mask_of(j, [mates[a]]) if a in mates else 0
        lost.append((spot_of(i, a), row & ~mate))
    return lost


def _either_lost(sizes, i, named, j, b):
    """Each worth of i but the named one, by its spot, with the mask of the worths of j but b."""
    others = rows_of(sizes)[j] & ~mask_of(j, [b])
    return [(spot_of(i, a), others) for a in range(sizes[i]) if a != named]


def _lost_by(sizes, saying):
    """Spots, each with the mask of what it is out with by the saying."""
    if saying[0] == "own":
        _, i, worths = saying
        spots = [spot_of(i, a) for a in range(sizes[i]) if a not in worths]
        return [(spot, 1 << spot) for spot in spots]
    if saying[0] == "tied":
        _, i, j, pairs = saying
        return _tied_lost(sizes, i, j, dict(pairs)) + _tied_lost(sizes, j, i, {b: a for a, b in pairs})
    _, i, a, j, b = saying
    return _either_lost(sizes, i, a, j, b) + _either_lost(sizes, j, b, i, a)


def _out_at_first(book):
    """For each spot the mask of the spots that it is out with at the beginning."""
    sizes, sayings = book
    out = [0] * spot_of(len(sizes), 0)
    for setting, row in enumerate(rows_of(sizes)):
        for worth in range(sizes[setting]):
            spot = spot_of(setting, worth)
            out[spot] = row & ~(1 << spot)
    for saying in sayings:
        for spot, lost in _lost_by(sizes, saying):
            out[spot] |= lost
    return out


def _out_behind(book, steps):
    """What is out behind the steps, None if book is no book or some step is not right."""
    if not is_book(book) or not isinstance(steps, tuple):
        return None
    sizes = book[0]
    rows = rows_of(sizes)
    out = _out_at_first(book)
    for step in steps:
        if not tuple_sized(step, 5, 5) or not has_worth(sizes, step[:2]) or not has_worth(sizes, step[2:4]):
            return None
        if not setting_of(sizes, step[4]):
            return None
        one, two = spot_of(step[0], step[1]), spot_of(step[2], step[3])
        if rows[step[4]] & ~(out[one] | out[two]):
            return None
        out[one] |= 1 << two
        out[two] |= 1 << one
    return out


def out_right(book, steps, one, two):
    """Whether the steps are right, and one and two are out behind them."""
    out = _out_behind(book, steps)
    if out is None or not has_worth(book[0], one) or not has_worth(book[0], two):
        return False
    return out[spot_of(one[0], one[1])] >> spot_of(two[0], two[1]) & 1 == 1


def none_right(book, steps):
    """Whether the steps are right, and no worth of some setting is left behind them."""
    out = _out_behind(book, steps)
    if out is None:
        return False
    for setting, many in enumerate(book[0]):
        spots = [spot_of(setting, worth) for worth in range(many)]
        if all([out[spot] >> spot & 1 for spot in spots]):
            return True
    return False


def both_right(book, page, one, two):
    """Whether the page keeps the book, and has both pairs of a setting and a worth."""
    if not keeps(book, page) or not has_worth(book[0], one) or not has_worth(book[0], two):
        return False
    return page[one[0]] == one[1] and page[two[0]] == two[1]
