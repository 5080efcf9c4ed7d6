"""Rules of laws [60]: how they are read and told, and of which pages they are true."""

from onlyforced.books import MOST_SAYINGS
from onlyforced.errors import TooMany, Twice
from onlyforced.formulas import formula_words, read_formula, true_among

SORTS = ("rule", "own", "tied", "either")


def _read_new_worth(reader, names, setting, ahead):
    """Read a worth of the setting that does not stand ahead, and put it there."""
    place = reader.place()
    worth = reader.worth(names, setting)
    if worth in ahead:
        raise Twice(place)
    ahead.append(worth)
    return worth


def _read_other_setting(reader, names, setting):
    """Read a setting that is another one."""
    place = reader.place()
    other = reader.setting(names)
    if other == setting:
        raise Twice(place)
    return other


def _read_own(reader, names):
    """Read what stands behind "own"."""
    setting = reader.setting(names)
    worths = []
    while reader.at_name() or not worths:
        _read_new_worth(reader, names, setting, worths)
    return ("own", setting, tuple(sorted(worths)))


def _read_tied(reader, names):
    """Read what stands behind "tied"."""
    one = reader.setting(names)
    two = _read_other_setting(reader, names, one)
    reader.one_of((":",))
    firsts, seconds, pairs = [], [], []
    while not pairs or reader.passes(","):
        a = _read_new_worth(reader, names, one, firsts)
        b = _read_new_worth(reader, names, two, seconds)
        pairs.append((a, b) if one < two else (b, a))
    return ("tied", min(one, two), max(one, two), tuple(sorted(pairs)))


def _read_either(reader, names):
    """Read what stands behind "either"."""
    one = reader.setting(names)
    a = reader.worth(names, one)
    two = _read_other_setting(reader, names, one)
    b = reader.worth(names, two)
    return ("either", one, a, two, b) if one < two else ("either", two, b, one, a)


def _read_rule(reader, names, sort):
    """Read what stands behind the first word of a rule."""
    if sort == "rule":
        return ("rule", read_formula(reader, names, 0))
    if sort == "own":
        return _read_own(reader, names)
    if sort == "tied":
        return _read_tied(reader, names)
    return _read_either(reader, names)


def read_rules(reader, names):
    """Read the rules of a law, each with ";" ahead of it, up to the end."""
    rules = []
    while reader.passes(";"):
        place = reader.place()
        sort = reader.one_of(SORTS)
        if len(rules) == MOST_SAYINGS:
            raise TooMany(place)
        rules.append(_read_rule(reader, names, sort))
    reader.end()
    return tuple(rules)


def _tied_words(names, rule):
    """The words of a tied saying."""
    _, i, j, pairs = rule
    (one, firsts), (two, seconds) = names[i], names[j]
    words = []
    for a, b in pairs:
        words += [",", firsts[a], seconds[b]]
    return ["tied", one, two, ":"] + words[1:]


def rule_words(names, rule):
    """The words that tell a rule."""
    if rule[0] == "rule":
        return ["rule"] + formula_words(names, rule[1])
    if rule[0] == "tied":
        return _tied_words(names, rule)
    if rule[0] == "own":
        name, worths = names[rule[1]]
        return ["own", name] + [worths[worth] for worth in rule[2]]
    _, i, a, j, b = rule
    (one, firsts), (two, seconds) = names[i], names[j]
    return ["either", one, firsts[a], two, seconds[b]]


def kept_among(rule, grid):
    """The mask of the pages of a grid that keep a rule."""
    if rule[0] == "rule":
        return true_among(rule[1], grid)
    if rule[0] == "either":
        return grid.having(rule[1], rule[2]) | grid.having(rule[3], rule[4])
    mask = 0
    if rule[0] == "own":
        for worth in rule[2]:
            mask |= grid.having(rule[1], worth)
    else:
        for a, b in rule[3]:
            mask |= grid.having(rule[1], a) & grid.having(rule[2], b)
    return mask
