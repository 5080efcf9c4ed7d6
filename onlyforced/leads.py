"""What worths lead to, and what is left of a book when that is followed [23]."""

from onlyforced.books import made_book
from onlyforced.edits import whole
from onlyforced.errors import CannotMeet, NoPage, NotLawful
from onlyforced.pages import MOST_WORTHS, mask_of, rows_of, spot_of

# What a worth leads to that is on no lawful page: each bit is set, so it clashes with all else.
CLASH = -1

# The bits of one setting, brought down to the lowest ones.
FIELD = 63


def pairs_in(mask):
    """The pairs (setting, worth) that are in the mask, rising."""
    pairs = []
    while mask:
        low = mask & -mask
        pairs.append(divmod(low.bit_length() - 1, MOST_WORTHS))
        mask ^= low
    return pairs


def worths_at(masks, setting):
    """For each of the masks the greatest worth of the setting that is in it, -1 if none is."""
    spot = spot_of(setting, 0)
    return [(mask >> spot & FIELD).bit_length() - 1 for mask in masks]


def _lowest(mask):
    """The number of the lowest bit of a mask that has one."""
    return (mask & -mask).bit_length() - 1


def _worths_from(mask, low, high):
    """The worths in the mask of the settings from low to the one below high, of each the greatest."""
    spots = range(spot_of(low, 0), spot_of(high, 0), MOST_WORTHS)
    return tuple([(mask >> spot & FIELD).bit_length() - 1 for spot in spots])


def mask_with(edit):
    """The mask of the pairs of an edit."""
    mask = 0
    for setting, worth in edit:
        mask |= 1 << spot_of(setting, worth)
    return mask


def _said(sizes, sayings, rows):
    """What the sayings by themselves tell of each spot, and the mask of the spots they let be.

    In the first list stands what the spot leads to by tied sayings, in the second one what the
    other spots of its setting lead to by either sayings.
    """
    tied = [0] * spot_of(len(sizes), 0)
    others = list(tied)
    barred = 0
    for saying in sayings:
        if saying[0] == "either":
            _, i, a, j, b = saying
            one, two = spot_of(i, a), spot_of(j, b)
            others[one] |= 1 << two
            others[two] |= 1 << one
        elif saying[0] == "own":
            _, i, worths = saying
            barred |= rows[i] & ~mask_of(i, worths)
        else:
            _, i, j, pairs = saying
            barred |= rows[i] & ~mask_of(i, [a for a, b in pairs])
            barred |= rows[j] & ~mask_of(j, [b for a, b in pairs])
            for a, b in pairs:
                one, two = spot_of(i, a), spot_of(j, b)
                tied[one] |= 1 << two
                tied[two] |= 1 << one
    return tied, others, barred


def _first_steps(sizes, tied, others):
    """For each spot the mask of what it leads to by one saying."""
    steps = tied
    for setting, many in enumerate(sizes):
        spots = range(spot_of(setting, 0), spot_of(setting, many))
        named = [spot for spot in spots if others[spot]]
        for two in named:
            for spot in spots:
                if spot != two:
                    steps[spot] |= others[two]
    return steps


class Left:
    """The worths that lawful pages have, and for each one what it leads to.

    Worths of which each two stand together on some lawful page stand all together on one [25].
    What a worth leads to is followed once it is asked for.
    """

    def __init__(self, sizes, sayings):
        self.sizes = sizes
        rows = rows_of(sizes)
        tied, others, barred = _said(sizes, sayings, rows)
        self._steps = _first_steps(sizes, tied, others)
        self._led = [1 << spot for spot in range(len(tied))]
        self._away = [rows[spot // MOST_WORTHS] & ~(1 << spot) for spot in range(len(tied))]
        for setting, worth in pairs_in(barred):
            spot = spot_of(setting, worth)
            self._led[spot], self._away[spot], self._steps[spot] = CLASH, CLASH, 0
        self._firsts = self._first_left()
        self._fixed = None

    def _gather(self, spot):
        """Put together all that a spot leads to, and all that this leads away from."""
        led, away = self._led[spot], self._away[spot]
        todo = self._steps[spot]
        while todo:
            there = todo.bit_length() - 1
            led |= self._led[there]
            away |= self._away[there]
            if led & away:
                led = away = CLASH
            todo = (todo | self._steps[there]) & ~led
        self._led[spot], self._away[spot], self._steps[spot] = led, away, 0

    def _follow(self, start):
        """Gather what start and all spots that it leads to lead to.

        A spot is gathered behind those that it leads to, unless they lead back to it, so that
        most of it has been put together already.
        """
        path = [start]
        met = 1 << start
        while path:
            ahead = self._steps[path[-1]] & ~met
            if ahead:
                there = ahead.bit_length() - 1
                met |= 1 << there
                if self._steps[there]:
                    path.append(there)
            else:
                self._gather(path.pop())

    def led(self, spot):
        """The mask of all that a spot leads to, itself among it; CLASH if no lawful page has it."""
        if self._steps[spot]:
            self._follow(spot)
        return self._led[spot]

    def away(self, spot):
        """The mask of all other worths of the settings to which a spot leads, or CLASH."""
        if self._steps[spot]:
            self._follow(spot)
        return self._away[spot]

    def worths(self, setting):
        """The worths that lawful pages have at the setting, rising."""
        return [worth for worth in range(self.sizes[setting]) if self.led(spot_of(setting, worth)) != CLASH]

    def _first_left(self):
        """The mask of the first worth of each setting that is left, 0 if one has none."""
        firsts = 0
        for setting, many in enumerate(self.sizes):
            for spot in range(spot_of(setting, 0), spot_of(setting, many)):
                if self.led(spot) != CLASH:
                    firsts |= 1 << spot
                    break
            else:
                return 0
        return firsts

    def has_page(self):
        """Whether some page keeps the book."""
        return self._firsts != 0

    def fixed_mask(self):
        """The mask of the worths that are alone at their settings."""
        if self._fixed is None:
            self._fixed = 0
            for setting, worth in pairs_in(self._firsts):
                above = range(spot_of(setting, worth + 1), spot_of(setting, self.sizes[setting]))
                if all([self.led(spot) == CLASH for spot in above]):
                    self._fixed |= 1 << spot_of(setting, worth)
        return self._fixed

    def led_by(self, wish):
        """The mask of all that the pairs of the wish lead to, CLASH if it cannot be met."""
        return self._reached(wish)[0]

    def _reached(self, wish):
        """What `led` and `away` of all pairs of the wish are together."""
        led = away = 0
        for setting, worth in wish:
            led |= self.led(spot_of(setting, worth))
            away |= self.away(spot_of(setting, worth))
        return (CLASH, CLASH) if led & away else (led, away)

    def can_meet(self, wish):
        """Whether some lawful page has all worths of the wish."""
        return self.led_by(wish) != CLASH

    def standing(self):
        """For each worth of each setting those of the worths left that stand together with it."""
        left = sum([mask_of(setting, self.worths(setting)) for setting in range(len(self.sizes))])
        spots = [spot_of(setting, worth) for setting, many in enumerate(self.sizes) for worth in range(many)]
        return [left & ~self.away(spot) for spot in spots]

    def bar(self, wish):
        """The least pair of the wish's settings that no lawful page has so, None if all are met."""
        if self.can_meet(wish):
            return None
        for at, one in enumerate(wish):
            for two in wish[at:]:
                if not self.can_meet((one, two)):
                    return (one[0], two[0])

    def forced(self, wish):
        """The edit of all on which the lawful pages with a wish agree; it can be met."""
        return tuple(pairs_in(self.led_by(wish) | self.fixed_mask()))

    def edit_for(self, wish):
        """The edit of a wish that can be met: itself, and what it forces of all that is not fixed."""
        return tuple(pairs_in(self.led_by(wish) & ~self.fixed_mask() | mask_with(wish)))

    def least_page(self, wish):
        """The least lawful page with the wish, None if there is none."""
        led, away = self._reached(wish)
        if led == CLASH:
            return None
        # What has not been led to stands together with all that has, so the first worth can be taken.
        rest = self._firsts & ~(led | away)
        while rest:
            spot = _lowest(rest)
            led |= self._led[spot]
            away |= self._away[spot]
            rest = self._firsts & ~(led | away)
        return _worths_from(led, 0, len(self.sizes))

    def least_pages(self, most):
        """The least lawful pages, rising, as many as most tells."""
        pages = []
        told = [self.worths(setting) for setting in range(len(self.sizes))]
        left = sum([mask_of(setting, worths) for setting, worths in enumerate(told)])
        begun = [((), 0, 0)]
        # The page that is begun last is the least one, and each goes on to some page.
        while begun and len(pages) < most:
            page, led, away = begun.pop()
            rest = left & ~(led | away)
            if rest:
                setting = _lowest(rest) // MOST_WORTHS
                page = page + _worths_from(led, len(page), setting)
                for worth in told[setting][::-1]:
                    spot = spot_of(setting, worth)
                    begun.append((page, led | self._led[spot], away | self._away[spot]))
            else:
                pages.append(page + _worths_from(led, len(page), len(self.sizes)))
        return tuple(pages)


def closed(book):
    """What is left of a right book, None if no page keeps it."""
    left = Left(*book)
    return left if left.has_page() else None


def closed_kept(book):
    """What is left of a book that some page keeps; refuses others."""
    left = closed(made_book(book))
    if left is None:
        raise NoPage(0)
    return left


def must_be_met(left, wish):
    """Refuse a wish over the book's sizes that cannot be met."""
    pair = left.bar(wish)
    if pair is not None:
        raise CannotMeet(pair)


def must_be_lawful(left, page):
    """Refuse a page over the book's sizes that is not lawful."""
    if left.bar(whole(page)) is not None:
        raise NotLawful(0)
