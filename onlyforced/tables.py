"""Tables, which tell a law page by page [7], and what they tell of wishes and pairs [8]."""

from onlyforced.edits import fits, made_edit
from onlyforced.errors import BadTable, CannotMeet
from onlyforced.forms import plain_pair, tuple_sized
from onlyforced.pages import is_sizes, made_setting, made_sizes, page_fault

MOST_PAGES = 200


def _table_form(thing):
    """Whether thing is a pair whose second part can be the pages of a table."""
    return plain_pair(thing) and tuple_sized(thing[1], 1, MOST_PAGES)


def _pages_fault(sizes, pages):
    """What BadTable tells of the pages of a table over right sizes, None if they are right."""
    for index, page in enumerate(pages):
        if page_fault(sizes, page) is not None:
            return index
        if index > 0 and page <= pages[index - 1]:
            return index
    return None


def made_table(thing):
    """Return thing, if it is a table."""
    if not _table_form(thing):
        raise BadTable(-1)
    sizes, pages = thing
    fault = _pages_fault(made_sizes(sizes), pages)
    if fault is not None:
        raise BadTable(fault)
    return thing


def is_table(thing):
    """Whether thing is a table."""
    return _table_form(thing) and is_sizes(thing[0]) and _pages_fault(thing[0], thing[1]) is None


def among(table, page):
    """Whether this page is among the pages of a right table."""
    # (True, 0) equals (1, 0), but is no page: the form is asked ahead of the place.
    return page_fault(table[0], page) is None and page in table[1]


def lawful(table, page):
    """Whether table is a table, with this page among its pages."""
    return is_table(table) and among(table, page)


def having(table, edit):
    """The lawful pages that have all worths of the edit, rising."""
    sizes, pages = made_table(table)
    wanted = made_edit(sizes, edit)
    return tuple([page for page in pages if fits(page, wanted)])


def forced_of(table, wish):
    """The edit of all settings on which the lawful pages that have the wish agree."""
    pages = having(table, wish)
    if not pages:
        raise CannotMeet(0)
    agreed_on = []
    for setting, worth in enumerate(pages[0]):
        if all([page[setting] == worth for page in pages]):
            agreed_on.append((setting, worth))
    return tuple(agreed_on)


def fixed_of(table):
    """The edit of the settings that have one worth on all lawful pages."""
    return forced_of(table, ())


def pairs_at(pages, i, j):
    """The pairs (worth at i, worth at j) that the pages have, rising."""
    return tuple(sorted({(page[i], page[j]) for page in pages}))


def pairs_of(table, i, j):
    """The pairs (worth at i, worth at j) that lawful pages have, rising."""
    sizes, pages = made_table(table)
    return pairs_at(pages, made_setting(sizes, i), made_setting(sizes, j))
