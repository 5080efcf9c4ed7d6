"""Grants, which tell what a desk writes for a wish [17], and runs of houses that write them [18]."""

from onlyforced.edits import edit_fault, over, within
from onlyforced.errors import BadGrants, BadMany, BadScript, NotLawful
from onlyforced.forms import number_within, plain_pair, tuple_sized
from onlyforced.pages import made_page, made_sizes
from onlyforced.safe import breaks
from onlyforced.tables import made_table

MOST_GRANTS = 40
MOST_HOUSES = 6
MOST_ROWS = 200


def _grant_right(sizes, thing):
    """Whether thing is a pair of a wish and an edit over right sizes, the wish within the edit."""
    if not plain_pair(thing):
        return False
    wish, edit = thing
    return edit_fault(sizes, wish) is None and edit_fault(sizes, edit) is None and within(wish, edit)


def made_grants(sizes, thing):
    """Return thing, if it is grants over sizes."""
    made_sizes(sizes)
    if not tuple_sized(thing, 1, MOST_GRANTS):
        raise BadGrants(-1)
    for index, grant in enumerate(thing):
        if not _grant_right(sizes, grant):
            raise BadGrants(index)
    return thing


def unsafe(table, grants):
    """The first grant whose edit is not safe, with the page of `breaks`; None if all are safe."""
    sizes, _ = made_table(table)
    for index, (_, edit) in enumerate(made_grants(sizes, grants)):
        page = breaks(table, edit)
        if page is not None:
            return (index, page)
    return None


def _script_row_right(thing, many, grants):
    """Whether thing is a row of a script for many houses and as many grants as told."""
    if not tuple_sized(thing, 3, 3):
        return False
    word, h, other = thing
    if word != "wish" and word != "meet":
        return False
    most = grants if word == "wish" else many
    return number_within(h, 0, many - 1) and number_within(other, 0, most - 1)


def _look_at_script(script, many, grants):
    """Refuse what is no script for many houses and as many grants as told."""
    if not tuple_sized(script, 0, MOST_ROWS):
        raise BadScript(-1)
    for index, row in enumerate(script):
        if not _script_row_right(row, many, grants):
            raise BadScript(index)


def _granted(row, h, edit):
    """The row of the house h, the edit with one new stamp laid over it."""
    newest = max([count for worth, (count, house) in row])
    return over(row, [(setting, (worth, (newest + 1, h))) for setting, worth in edit])


def _met(row, other):
    """The row with all that has a newer stamp in the other one."""
    return tuple([theirs if theirs[1] > own[1] else own for own, theirs in zip(row, other)])


def _pages_in(rows):
    """The pages of rows."""
    return tuple([tuple([worth for worth, stamp in row]) for row in rows])


def run_grants(table, page, many, grants, script):
    """The pages of all houses at the beginning, then behind each row of the script."""
    sizes, pages = made_table(table)
    made_page(sizes, page)
    made_grants(sizes, grants)
    if page not in pages:
        raise NotLawful(0)
    if not number_within(many, 1, MOST_HOUSES):
        raise BadMany(many)
    _look_at_script(script, many, len(grants))
    # A row has a worth and its stamp for each setting.
    rows = [tuple([(worth, (0, 0)) for worth in page]) for _ in range(many)]
    shown = [_pages_in(rows)]
    for word, h, other in script:
        if word == "wish":
            rows[h] = _granted(rows[h], h, grants[other][1])
        else:
            rows[h] = _met(rows[h], rows[other])
        shown.append(_pages_in(rows))
    return tuple(shown)
