"""Names [57], and laws and books as texts [59] [60] [62] [63]."""

from onlyforced.books import made_book
from onlyforced.errors import BadNames, NoPage, NotPairs, TooMany, Twice, Unlike
from onlyforced.forms import plain_pair, tuple_sized
from onlyforced.grids import Grid, product_of
from onlyforced.pages import MOST_SETTINGS, MOST_WORTHS
from onlyforced.rules import kept_among, read_rules, rule_words
from onlyforced.tables import MOST_PAGES
from onlyforced.words import Reader, plain_name

MOST_LOOKED_AT = 4096


def _name_right(thing):
    """Whether thing is a pair of a setting's name and names of its worths."""
    if not plain_pair(thing) or not plain_name(thing[0]) or not tuple_sized(thing[1], 1, MOST_WORTHS):
        return False
    # Only once all are names they are kept as members: others may be nested deep.
    return all([plain_name(worth) for worth in thing[1]]) and len(set(thing[1])) == len(thing[1])


def made_names(thing):
    """Return thing, if it is names."""
    if not tuple_sized(thing, 1, MOST_SETTINGS):
        raise BadNames(-1)
    ahead = []
    for index, part in enumerate(thing):
        if not _name_right(part) or part[0] in ahead:
            raise BadNames(index)
        ahead.append(part[0])
    return thing


def sizes_of(names):
    """How many worths each setting has."""
    return tuple([len(worths) for name, worths in made_names(names)])


def _read_worths(reader):
    """Read the names of all worths of a setting."""
    worths = []
    while reader.at_name() or not worths:
        place = reader.place()
        worth = reader.name()
        if len(worths) == MOST_WORTHS:
            raise TooMany(place)
        if worth in worths:
            raise Twice(place)
        worths.append(worth)
    return tuple(worths)


def _read_names(reader):
    """Read the settings of a law, as names."""
    reader.one_of(("settings",))
    names = []
    while not names or reader.passes(","):
        place = reader.place()
        name = reader.name()
        if len(names) == MOST_SETTINGS:
            raise TooMany(place)
        if name in [ahead for ahead, worths in names]:
            raise Twice(place)
        names.append((name, _read_worths(reader)))
    return tuple(names)


def read_law(text):
    """The names and the rules of a law's text."""
    reader = Reader(text)
    names = _read_names(reader)
    return (names, read_rules(reader, names))


def law_table(names, rules):
    """The table of all pages that keep the rules."""
    sizes = sizes_of(names)
    many = product_of(sizes)
    if many > MOST_LOOKED_AT:
        raise TooMany(many)
    grid = Grid(sizes)
    mask = grid.all_pages()
    for rule in rules:
        mask &= kept_among(rule, grid)
    if not mask:
        raise NoPage(0)
    if grid.how_many(mask) > MOST_PAGES:
        raise TooMany(grid.how_many(mask))
    return (sizes, grid.pages_in(mask))


def law_book(names, rules):
    """The book whose sayings are the rules."""
    sizes = sizes_of(names)
    for index, rule in enumerate(rules):
        if rule[0] == "rule":
            raise NotPairs(index)
    return (sizes, rules)


def _text_of(names, rules):
    """The text of a law."""
    words = []
    for name, worths in names:
        words += [",", name, *worths]
    words = ["settings"] + words[1:]
    for rule in rules:
        words += [";"] + rule_words(names, rule)
    return " ".join(words)


def print_law(names, rules):
    """The text of a law of these names and rules."""
    return _text_of(made_names(names), rules)


def print_book(names, book):
    """The text of the law whose rules are the book's sayings."""
    made_names(names)
    sizes, sayings = made_book(book)
    if sizes != sizes_of(names):
        raise Unlike(0)
    return _text_of(names, sayings)
