"""Papers, which tell step by step that no lawful page has two worths, or that there is none [29]."""

from onlyforced.books import made_book
from onlyforced.edits import has_worth
from onlyforced.errors import BadWorth, HasPage
from onlyforced.leads import closed


def _steps_of(sizes, saying):
    """Tuples (i, a, j, b): by the saying the worth a of i leads to the worth b of j."""
    if saying[0] == "tied":
        i, j, pairs = saying[1:]
        return [(i, a, j, b) for a, b in pairs] + [(j, b, i, a) for a, b in pairs]
    if saying[0] == "either":
        i, a, j, b = saying[1:]
        forth = [(i, worth, j, b) for worth in range(sizes[i]) if worth != a]
        return forth + [(j, worth, i, a) for worth in range(sizes[j]) if worth != b]
    return []


def _barred_by(sizes, saying):
    """Tuples (i, a, steps): by the saying (i, a) and (i, a) are out behind the steps, by no other."""
    if saying[0] == "own":
        return [(saying[1], a, ()) for a in range(sizes[saying[1]]) if a not in saying[2]]
    if saying[0] == "either":
        return []
    _, i, j, pairs = saying
    firsts, seconds = [a for a, b in pairs], [b for a, b in pairs]
    # Beside a worth that is in no pair, all worths of the other setting are out.
    barred = [(i, a, ((i, a, i, a, j),)) for a in range(sizes[i]) if a not in firsts]
    return barred + [(j, b, ((j, b, j, b, i),)) for b in range(sizes[j]) if b not in seconds]


class Trails:
    """What worths lead to by the sayings of a book, and the steps that tell so.

    A worth a of the setting i leads to the worth d of m just if (i, a) and (m, e) are out for all
    other worths e of m.
    """

    def __init__(self, sizes, sayings):
        self._sizes = sizes
        self._leads = {(i, a): [] for i, many in enumerate(sizes) for a in range(many)}
        self._barred = {}
        for saying in sayings:
            for i, a, j, b in _steps_of(sizes, saying):
                self._leads[(i, a)].append((j, b))
            for i, a, steps in _barred_by(sizes, saying):
                self._barred[(i, a)] = steps

    def _hop(self, came, start, k, to):
        """Steps behind which start is out beside all but the worth to of a setting.

        It is led to from k, where start came ahead of it.
        """
        (i, a), (m, d) = start, to
        # What is one saying away is out from the first.
        if k == i:
            return ()
        return came[k][1] + tuple([(i, a, m, e, k) for e in range(self._sizes[m]) if e != d])

    def _clash(self, came, start, k, m):
        """Steps behind which start is out beside itself.

        From k it is led to another worth of the setting m than it came to before.
        """
        i, a = start
        d, steps = came[m]
        steps = steps + came[k][1]
        if k != i:
            steps = steps + ((i, a, m, d, k),)
        return steps if m == i else steps + ((i, a, i, a, m),)

    def _stop(self, came, start, to):
        """Steps behind which start is out beside itself, as it came to a worth that is barred."""
        (i, a), (m, d) = start, to
        steps = came[m][1] + self._barred[to]
        return steps if m == i else steps + ((i, a, m, d, m), (i, a, i, a, m))

    def _onward(self, came, start, ring):
        """Follow what the worths at the settings of a ring lead to, and put it into came.

        Returned are the settings to which start came anew, and the steps of `follow`.
        """
        further = []
        for k in ring:
            worth = came[k][0]
            for m, d in self._leads[(k, worth)]:
                if m not in came:
                    came[m] = (d, self._hop(came, start, k, (m, d)))
                    further.append(m)
                    if (m, d) in self._barred:
                        return further, self._stop(came, start, (m, d))
                elif came[m][0] != d:
                    return further, self._clash(came, start, k, m)
        return further, None

    def follow(self, start):
        """What start, a pair of a setting and a worth, comes to, and steps, or None.

        For each setting to which start comes a dict has the worth, and steps behind which start
        is out beside the other worths. Behind the steps that are returned start is out beside
        itself; None tells that some lawful page has it, if the book has a page.
        """
        came = {start[0]: (start[1], ())}
        if start in self._barred:
            return came, self._stop(came, start, start)
        ring = [start[0]]
        steps = None
        # Ring by ring, so that each setting is come to by the fewest steps.
        while ring and steps is None:
            ring, steps = self._onward(came, start, ring)
        return came, steps

    def emptied(self):
        """A setting, and steps behind which each worth of it is out beside itself.

        There is one, as no page keeps the book.
        """
        for k, many in enumerate(self._sizes):
            papers = [self.follow((k, c))[1] for c in range(many)]
            if None not in papers:
                return k, tuple([step for steps in papers for step in steps])


def _out_steps(trails, sizes, one, two):
    """Steps behind which one and two are out; no lawful page has both."""
    if one[0] == two[0] and one != two:
        return ()
    for (i, a), (j, b) in ((one, two), (two, one)):
        came, steps = trails.follow((i, a))
        if steps is not None:
            return steps if one == two else steps + ((i, a, j, b, i),)
        if j in came and came[j][0] != b:
            return came[j][1]
    # Some page would have both, if there were pages at all.
    (i, a), (j, b) = one, two
    k, steps = trails.emptied()
    return steps + tuple([(i, a, k, c, k) for c in range(sizes[k])]) + ((i, a, j, b, k),)


def _once(steps):
    """The steps, each where it stands first only: it is right there, and all is out from there on."""
    return tuple({step: True for step in steps})


def out_paper(book, one, two):
    """Steps behind which one and two are out, None if some lawful page has both."""
    sizes, sayings = made_book(book)
    for which, thing in enumerate((one, two)):
        if not has_worth(sizes, thing):
            raise BadWorth(which)
    left = closed(book)
    if left is not None and left.can_meet((one, two)):
        return None
    return _once(_out_steps(Trails(sizes, sayings), sizes, one, two))


def none_paper(book):
    """Steps behind which no worth of some setting is left, of a book that no page keeps."""
    sizes, sayings = made_book(book)
    if closed(book) is not None:
        raise HasPage(0)
    _, steps = Trails(sizes, sayings).emptied()
    return _once(steps)
