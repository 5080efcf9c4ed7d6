"""Where wishes part and quarrel [34], what stands still [36], and who is content together [37]."""

from itertools import combinations

from onlyforced.edits import laid, made_edit
from onlyforced.errors import Quarrel
from onlyforced.leads import closed_kept, must_be_met
from onlyforced.visits import edits_at, met_wishes, over_all


def _parted(one, two):
    """The settings at which two edits part, rising."""
    worths = {setting: worth for setting, worth in one}
    return [setting for setting, worth in two if worths.get(setting, worth) != worth]


def parting(book, one, two):
    """The settings at which the edits of two wishes part, rising."""
    left = closed_kept(book)
    for wish in (one, two):
        made_edit(left.sizes, wish)
    for wish in (one, two):
        must_be_met(left, wish)
    return tuple(_parted(left.edit_for(one), left.edit_for(two)))


def _edits_of(left, wishes):
    """The edits of wishes, each of which can be met."""
    return [left.edit_for(wish) for wish in met_wishes(left, wishes)]


def _first_quarrel(edits):
    """The least pair of indexes of edits that part, None if there is none."""
    for i, j in combinations(range(len(edits)), 2):
        if _parted(edits[i], edits[j]):
            return (i, j)
    return None


def quarrel(book, wishes):
    """The least pair of indexes of wishes that no lawful page has both, None if there is none."""
    return _first_quarrel(_edits_of(closed_kept(book), wishes))


def _fought(edits):
    """The settings at which some two of the edits part, rising."""
    return sorted({setting for one, two in combinations(edits, 2) for setting in _parted(one, two)})


def fought(book, wishes):
    """The settings at which the edits of some two of the wishes part, rising."""
    return tuple(_fought(_edits_of(closed_kept(book), wishes)))


def joint(book, wishes):
    """The edit of all wishes together."""
    left = closed_kept(book)
    pair = _first_quarrel(_edits_of(left, wishes))
    if pair is not None:
        raise Quarrel(pair)
    wanted = ()
    for wish in wishes:
        wanted = laid(wanted, wish)
    return left.edit_for(wanted)


def quiet(book, page, wishes):
    """The edit of all that is not fought over, as it is once each hand came."""
    edits = edits_at(book, page, wishes)
    parted = _fought(edits)
    last = over_all(page, edits)
    return tuple([(setting, worth) for setting, worth in enumerate(last) if setting not in parted])


def most_content(book, wishes):
    """The first of the longest tuples of indexes whose wishes some lawful page has all together."""
    edits = _edits_of(closed_kept(book), wishes)
    content = [()]
    for index, edit in enumerate(edits):
        # Wishes of which each two can be had together can be had all together.
        content = content + [
            some + (index,) for some in content if not any([_parted(edits[other], edit) for other in some])
        ]
    most = max([len(some) for some in content])
    return min([some for some in content if len(some) == most])
