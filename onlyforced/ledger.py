"""Ledgers, which keep deeds that can be withdrawn [52], and go back and forth in them [53]."""

from onlyforced.edits import made_edit
from onlyforced.errors import (
    AlreadyOut, BadStamp, BadStamps, Full, HasStamp, NoStamp, NotOut, NothingAgain, NothingBack,
)
from onlyforced.forms import rises
from onlyforced.leads import closed_kept, must_be_lawful, must_be_met
from onlyforced.letters import plain_stamp
from onlyforced.pages import made_page
from onlyforced.visits import over_all

MOST_DEEDS = 200


class Ledger:
    """Deeds over a first page, each under its stamp, of which some stand."""

    def __init__(self, book, page):
        left = closed_kept(book)
        made_page(left.sizes, page)
        must_be_lawful(left, page)
        self._left = left
        self._first = page
        # Under each stamp the wish and its edit; and those stamps whose deeds stand.
        self._wishes = {}
        self._standing = {}
        # What was granted and is not undone, and what was undone, the last ones behind.
        self._done = []
        self._undone = []

    def _do(self, action):
        """Do an action: a word, a stamp, and a wish with its edit if one is put."""
        word, stamp, told = action
        if word == "withdraw":
            del self._standing[stamp]
        else:
            self._standing[stamp] = True
        if word == "put":
            self._wishes[stamp] = told
        self._done.append(action)

    def _grant(self, action):
        """Do a new action, behind which nothing can be done again."""
        self._do(action)
        self._undone = []

    def put(self, stamp, wish):
        """Keep a deed."""
        if not plain_stamp(stamp):
            raise BadStamp(-1)
        made_edit(self._left.sizes, wish)
        must_be_met(self._left, wish)
        if stamp in self._wishes:
            raise HasStamp(0)
        if len(self._wishes) == MOST_DEEDS:
            raise Full(MOST_DEEDS)
        self._grant(("put", stamp, (wish, self._left.edit_for(wish))))

    def _must_have(self, stamp):
        """Refuse what is no stamp, and a stamp that no deed has."""
        if not plain_stamp(stamp):
            raise BadStamp(-1)
        if stamp not in self._wishes:
            raise NoStamp(0)

    def withdraw(self, stamp):
        """Let a deed stand no longer."""
        self._must_have(stamp)
        if stamp not in self._standing:
            raise AlreadyOut(0)
        self._grant(("withdraw", stamp, None))

    def restore(self, stamp):
        """Let a withdrawn deed stand again."""
        self._must_have(stamp)
        if stamp in self._standing:
            raise NotOut(0)
        self._grant(("restore", stamp, None))

    def deeds(self):
        """For each deed its stamp, its wish, and whether it stands, by rising stamps."""
        return tuple([(stamp, self._wishes[stamp][0], stamp in self._standing) for stamp in sorted(self._wishes)])

    def _page_with(self, stamps):
        """The first page with the edits of these deeds laid over it."""
        return over_all(self._first, [self._wishes[stamp][1] for stamp in stamps])

    def page(self):
        """The first page with the edits of all deeds that stand laid over it, by rising stamps."""
        return self._page_with(sorted(self._standing))

    def page_of(self, stamps):
        """The first page with the edits of just these deeds laid over it."""
        if not isinstance(stamps, tuple) or not all([plain_stamp(stamp) for stamp in stamps]) or not rises(stamps):
            raise BadStamps(-1)
        for index, stamp in enumerate(stamps):
            if stamp not in self._wishes:
                raise NoStamp(index)
        return self._page_with(stamps)

    def back(self):
        """Undo what was granted last and is not undone."""
        if not self._done:
            raise NothingBack(0)
        action = self._done.pop()
        word, stamp, _ = action
        if word == "withdraw":
            self._standing[stamp] = True
        else:
            del self._standing[stamp]
        if word == "put":
            del self._wishes[stamp]
        self._undone.append(action)

    def again(self):
        """Do again what was undone last."""
        if not self._undone:
            raise NothingAgain(0)
        self._do(self._undone.pop())
