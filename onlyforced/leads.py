"""What worths lead to, and what is left of a book when that is followed [23].

Several worths, each of some setting, are kept together as one number, a mask: its bit number
spot_of(i, a) tells whether the worth a of the setting i is among them.
"""

from onlyforced.books import made_book
from onlyforced.edits import whole
from onlyforced.errors import CannotMeet, NoPage, NotLawful
from onlyforced.pages import MOST_WORTHS


def spot_of(setting, worth):
    """The number of the bit that tells of this worth of the setting."""
    return setting * MOST_WORTHS + worth


def mask_of(setting, worths):
    """The mask of these worths of the setting."""
    mask = 0
    for worth in worths:
        mask |= 1 << spot_of(setting, worth)
    return mask


def _let(saying):
    """Pairs of a setting, and all worths of it that the saying by itself lets a page have."""
    if saying[0] == "own":
        return [(saying[1], saying[2])]
    if saying[0] == "tied":
        pairs = saying[3]
        return [(saying[1], [a for a, b in pairs]), (saying[2], [b for a, b in pairs])]
    return []


def _barred(sizes, sayings):
    """The mask of the worths that some saying by itself lets no page have."""
    barred = 0
    for saying in sayings:
        for setting, worths in _let(saying):
            barred |= mask_of(setting, [worth for worth in range(sizes[setting]) if worth not in worths])
    return barred


def steps_of(sizes, saying):
    """Tuples (i, a, j, b): by the saying the worth a of i leads to the worth b of j."""
    if saying[0] == "tied":
        i, j = saying[1], saying[2]
        return [(i, a, j, b) for a, b in saying[3]] + [(j, b, i, a) for a, b in saying[3]]
    if saying[0] == "either":
        _, i, a, j, b = saying
        forth = [(i, worth, j, b) for worth in range(sizes[i]) if worth != a]
        return forth + [(j, worth, i, a) for worth in range(sizes[j]) if worth != b]
    return []


def _leads(sizes, sayings):
    """For each spot the mask of all that its worth leads to, itself among them."""
    leads = [1 << spot for spot in range(spot_of(len(sizes), 0))]
    for saying in sayings:
        for i, a, j, b in steps_of(sizes, saying):
            leads[spot_of(i, a)] |= mask_of(j, [b])
    # Behind each round all is there that is led to by way of the spots up to this one.
    for way in range(len(leads)):
        for spot in range(len(leads)):
            if leads[spot] >> way & 1:
                leads[spot] |= leads[way]
    return leads


def _quarrels(led, rows):
    """Whether two worths of one setting are in the mask led."""
    # A number has one bit at most exactly if it shares none with the number one below.
    return any([led & row & ((led & row) - 1) for row in rows])


def _stands(led, left, rows):
    """The mask of what is left and stands together with the worth that leads to led.

    That is so for all worths but the others of the settings to which it leads. The worths that
    it leads away from lead away from it, too, so to look from one side is enough.
    """
    stands = 0
    for row in rows:
        stands |= led & row or left & row
    return stands


class Left:
    """The worths that lawful pages have, and for each one those that stand together with it.

    Worths of which each two stand together on some lawful page stand all together on one [25].
    """

    def __init__(self, sizes, left, beside):
        self.sizes = sizes
        self._left = left
        self._beside = beside

    def with_all(self, wish):
        """The mask of the worths that stand together with each pair of the wish.

        If the wish cannot be met, it has none for some setting of the wish.
        """
        mask = self._left
        for setting, worth in wish:
            mask &= self._beside[spot_of(setting, worth)]
        return mask

    def worths_in(self, mask, setting):
        """The worths of the setting that are in the mask, rising."""
        return [worth for worth in range(self.sizes[setting]) if mask >> spot_of(setting, worth) & 1]

    def stand(self, one, two):
        """Whether some lawful page has both of two pairs, each of a setting and a worth of it."""
        return self._beside[spot_of(one[0], one[1])] >> spot_of(two[0], two[1]) & 1 == 1

    def bar(self, wish):
        """The least pair of the wish's settings that no lawful page has so, None if all are met."""
        for at, one in enumerate(wish):
            for two in wish[at:]:
                if not self.stand(one, two):
                    return (one[0], two[0])
        return None

    def _alone(self, mask):
        """The edit of the settings of which just one worth is in the mask."""
        edit = []
        for setting in range(len(self.sizes)):
            worths = self.worths_in(mask, setting)
            if len(worths) == 1:
                edit.append((setting, worths[0]))
        return tuple(edit)

    def forced(self, wish):
        """The edit of all on which the lawful pages with a wish agree; it can be met."""
        return self._alone(self.with_all(wish))

    def edit_for(self, wish):
        """The edit of a wish that can be met: itself, and what it forces of all that is not fixed."""
        still = self.forced(())
        return tuple([pair for pair in self.forced(wish) if pair in wish or pair not in still])

    def pairs(self, i, j):
        """The pairs (worth at i, worth at j) that lawful pages have, rising."""
        pairs = []
        for a in self.worths_in(self._left, i):
            pairs += [(a, b) for b in self.worths_in(self.with_all(((i, a),)), j)]
        return tuple(pairs)

    def least_pages(self, wish, most):
        """The least lawful pages with the wish, rising, as many as most tells."""
        begun = [((), self.with_all(wish))]
        for setting in range(len(self.sizes)):
            longer = []
            for page, mask in begun:
                for worth in self.worths_in(mask, setting):
                    beside = self._beside[spot_of(setting, worth)]
                    longer.append((page + (worth,), mask & beside))
            # Each of these goes on to some page, so the first ones are enough.
            begun = longer[:most]
        return tuple([page for page, mask in begun])

    def least_page(self, wish):
        """The least lawful page with the wish, None if there is none."""
        pages = self.least_pages(wish, 1)
        return pages[0] if pages else None


def closed(book):
    """What is left of a right book, None if no page keeps it."""
    sizes, sayings = book
    rows = [mask_of(setting, list(range(many))) for setting, many in enumerate(sizes)]
    leads = _leads(sizes, sayings)
    barred = _barred(sizes, sayings)
    left = 0
    for setting, many in enumerate(sizes):
        for worth in range(many):
            led = leads[spot_of(setting, worth)]
            if not led & barred and not _quarrels(led, rows):
                left |= mask_of(setting, [worth])
    if not all([left & row for row in rows]):
        return None
    beside = [_stands(led, left, rows) if left >> spot & 1 else 0 for spot, led in enumerate(leads)]
    return Left(sizes, left, beside)


def closed_kept(book):
    """What is left of a book that some page keeps; refuses others."""
    left = closed(made_book(book))
    if left is None:
        raise NoPage(0)
    return left


def must_be_met(left, wish):
    """Refuse a wish over the book's sizes that cannot be met."""
    pair = left.bar(wish)
    if pair is not None:
        raise CannotMeet(pair)


def must_be_lawful(left, page):
    """Refuse a page over the book's sizes that is not lawful."""
    if left.bar(whole(page)) is not None:
        raise NotLawful(0)
