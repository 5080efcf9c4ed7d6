"""Meek desks, which change only what a wish forces [15], and the pages near to one [16]."""

from onlyforced.edits import agreed, fits, is_edit, made_edit, over
from onlyforced.errors import CannotMeet, NotLawful
from onlyforced.judge import three
from onlyforced.pages import changed, made_page
from onlyforced.tables import forced_of, having, lawful, made_table


def meek_right(table, page, wish, new):
    """Whether a desk that is shown a lawful page and a wish may show the new page, if it is meek."""
    if not lawful(table, page) or not lawful(table, new) or not is_edit(table[0], wish):
        return False
    # New has all that the wish forces. So where only that is changed, it is laid over the page.
    return fits(new, wish) and over(page, forced_of(table, wish)) == new


def stuck(table):
    """A lawful page, and a wish that no meek desk grants there; None if the table is writable."""
    pages = three(table)
    if pages is None:
        return None
    x, y, z = pages
    # Both x and y have the wish to be as they agree, so it forces nothing more. Laid over z it
    # comes to the move of the three, which is not lawful.
    return (z, agreed(x, y))


def _mask(settings):
    """The settings as the bits of one number."""
    mask = 0
    for setting in settings:
        mask |= 1 << setting
    return mask


def near(table, page, wish):
    """The lawful pages with the wish that differ from the page in no more than they need to, rising."""
    sizes, pages = made_table(table)
    made_page(sizes, page)
    made_edit(sizes, wish)
    if page not in pages:
        raise NotLawful(0)
    others = having(table, wish)
    if not others:
        raise CannotMeet(0)
    masks = [_mask(changed(page, other)) for other in others]
    least = [mask for mask in masks if not any([part & mask == part and part != mask for part in masks])]
    return tuple([other for other, mask in zip(others, masks) if mask in least])
