"""All errors of the package. Each but Refused stands under Refused itself."""


class Refused(ValueError):
    """What is refused; `what` tells what it is, or where it stands."""

    def __init__(self, what):
        self.what = what


class BadSizes(Refused):
    """Sizes that are none: -1, or the first wrong index."""


class BadPage(Refused):
    """A page that is none: -1, or the first setting without a worth."""


class BadEdit(Refused):
    """An edit or a wish that is none: -1, or the first wrong index."""


class BadSetting(Refused):
    """A setting that is none: what was handed in."""


class BadLot(Refused):
    """A lot that is none: -1."""


class NoPage(Refused):
    """A law that no page keeps: 0."""


class BadTable(Refused):
    """A table that is none: -1, or the first wrong index of its pages."""


class CannotMeet(Refused):
    """A wish that no lawful page has: 0, or the pair of settings that bars it."""


class BadPairs(Refused):
    """Pairs that are none: -1."""


class NotWritable(Refused):
    """A table that is not writable: 0."""


class TooMany(Refused):
    """More than is looked at, or read: how many, or a place."""


class NotLawful(Refused):
    """A page, or a row, that is not lawful: 0."""


class BadGrants(Refused):
    """Grants that are none: -1, or the first wrong index."""


class BadMany(Refused):
    """A number of houses or pages that is out of its limits: what was handed in."""


class BadScript(Refused):
    """A script that is none: -1, or the first wrong index."""


class BadBook(Refused):
    """A book that is none: -1."""


class BadSaying(Refused):
    """A saying that is none: its index, or 0."""


class Unlike(Refused):
    """What has to be alike, and is not: 0, a setting or a class."""


class BadWorth(Refused):
    """A setting with a worth that is none: 0 or 1, which of two."""


class HasPage(Refused):
    """A book that some page keeps: 0."""


class BadRow(Refused):
    """A row that is none: -1, or the first wrong index."""


class BadLetter(Refused):
    """A letter that is none: -1, or the first wrong index."""


class BadHouse(Refused):
    """A house that is none: what was handed in."""


class NotKept(Refused):
    """A setting that a house does not keep: it."""


class Narrow(Refused):
    """A letter that does not span a setting of the house: it."""


class BadWrite(Refused):
    """A write that is none: 0."""


class BadLots(Refused):
    """Lots that are none: -1, or the first wrong index."""


class BadManner(Refused):
    """A manner that is none: what was handed in."""


class Full(Refused):
    """A world or ledger that takes no more: how many it has."""


class NoLetter(Refused):
    """A letter that a world does not have: what was handed in."""


class NotTorn(Refused):
    """A world that is not of the manner torn: 0."""


class Torn(Refused):
    """A world that is of the manner torn: 0."""


class Fixed(Refused):
    """A setting that is fixed: it."""


class BadStamp(Refused):
    """A stamp that is none: -1."""


class HasStamp(Refused):
    """A stamp that some deed has: 0."""


class NoStamp(Refused):
    """A stamp that no deed has: 0, or its index."""


class AlreadyOut(Refused):
    """A deed that is withdrawn already: 0."""


class NotOut(Refused):
    """A deed that is not withdrawn: 0."""


class BadStamps(Refused):
    """Stamps that are none: -1."""


class NothingBack(Refused):
    """Nothing that can be undone: 0."""


class NothingAgain(Refused):
    """Nothing that can be done again: 0."""


class BadWishes(Refused):
    """Wishes that are none: -1, or the first wrong index."""


class Unmet(Refused):
    """A wish among several that cannot be met: its index."""


class Quarrel(Refused):
    """Wishes that no lawful page has all: the first pair of their indexes."""


class BadVisits(Refused):
    """Visits that are none: -1, or the first wrong place."""


class BadEdits(Refused):
    """Edits that are none: -1, or the first wrong index."""


class BadText(Refused):
    """A text that is none, or cannot be read: -1, or a place."""


class NoName(Refused):
    """A name that no setting has: its place."""


class NoWorth(Refused):
    """A name that no worth of the setting has: its place."""


class Twice(Refused):
    """A name that stands twice: its place."""


class TooDeep(Refused):
    """A formula that goes too deep: a place."""


class BadNames(Refused):
    """Names that are none: -1, or the first wrong index."""


class NotPairs(Refused):
    """A rule that is no saying: its index."""
