"""Safe edits under a table, what others break, and the least ones of a wish [13]."""

from onlyforced.edits import made_edit, over, within
from onlyforced.errors import CannotMeet, TooMany
from onlyforced.tables import having, made_table

MOST_EDITS = 2000
MOST_LAWFUL = 60


def _first_broken(pages, edit):
    """The first of the pages that is none of them with the edit laid over it, None if none is so."""
    there = set(pages)
    for page in pages:
        if over(page, edit) not in there:
            return page
    return None


def breaks(table, edit):
    """The least lawful page that the edit makes unlawful, None if the edit is safe."""
    sizes, pages = made_table(table)
    return _first_broken(pages, made_edit(sizes, edit))


def safe(table, edit):
    """Whether each lawful page is lawful with the edit laid over it."""
    return breaks(table, edit) is None


def _count_first(sizes, pages):
    """Refuse tables with more edits or pages than are gone through."""
    many = 1
    for size in sizes:
        many *= size + 1
    if many > MOST_EDITS:
        raise TooMany(many)
    if len(pages) > MOST_LAWFUL:
        raise TooMany(len(pages))


def _all_edits(sizes):
    """All edits over the sizes, rising."""
    edits = [()]
    for setting, many in enumerate(sizes):
        edits = edits + [edit + ((setting, worth),) for edit in edits for worth in range(many)]
    return sorted(edits)


def safe_edits(table):
    """All safe edits, rising."""
    sizes, pages = made_table(table)
    _count_first(sizes, pages)
    return tuple([edit for edit in _all_edits(sizes) if _first_broken(pages, edit) is None])


def _least(edits):
    """Those of the edits that have no other one within them, rising."""
    least = []
    # What is within another edit is shorter, so it comes ahead of it.
    for edit in sorted(edits, key=len):
        if not any([within(other, edit) for other in least]):
            least.append(edit)
    return tuple(sorted(least))


def least_edits(table, wish):
    """The least safe edits that have the wish within them, rising."""
    sizes, pages = made_table(table)
    wanted = made_edit(sizes, wish)
    _count_first(sizes, pages)
    if not having(table, wanted):
        raise CannotMeet(0)
    return _least([edit for edit in safe_edits(table) if within(wanted, edit)])
