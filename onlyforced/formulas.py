"""Formulas [61]: whether they are true, and how they are read and told."""

from onlyforced.errors import TooDeep

MOST_DEEP = 30

# Of which sorts a part stands in brackets, by the sort of the whole.
BRACKETED = {"not": ("if", "or", "and"), "and": ("if", "or", "and"), "or": ("if", "or"), "if": ("if",)}


def true_at(formula, page):
    """Whether a formula is true of a page."""
    if formula[0] == "is":
        return page[formula[1]] == formula[2]
    if formula[0] == "not":
        return not true_at(formula[1], page)
    if formula[0] == "if":
        return not true_at(formula[1], page) or true_at(formula[2], page)
    # All of them have to be true, or one of them.
    every = formula[0] == "and"
    for part in formula[1]:
        if true_at(part, page) != every:
            return not every
    return every


def true_among(formula, grid):
    """The mask of the pages of a grid of which a formula is true."""
    if formula[0] == "is":
        return grid.having(formula[1], formula[2])
    if formula[0] == "not":
        return grid.all_pages() & ~true_among(formula[1], grid)
    if formula[0] == "if":
        return grid.all_pages() & ~true_among(formula[1], grid) | true_among(formula[2], grid)
    every = formula[0] == "and"
    mask = grid.all_pages() if every else 0
    for part in formula[1]:
        if every:
            mask &= true_among(part, grid)
        else:
            mask |= true_among(part, grid)
    return mask


def _read_unit(reader, names, deep):
    """Read a unit."""
    place = reader.place()
    if reader.at_name():
        setting = reader.setting(names)
        return ("is", setting, reader.worth(names, setting))
    word = reader.one_of(("not", "("))
    if deep == MOST_DEEP:
        raise TooDeep(place)
    if word == "not":
        return ("not", _read_unit(reader, names, deep + 1))
    formula = read_formula(reader, names, deep + 1)
    reader.one_of((")",))
    return formula


def _read_and_part(reader, names, deep):
    """Read an and-part."""
    parts = [_read_unit(reader, names, deep)]
    while reader.passes("and"):
        parts.append(_read_unit(reader, names, deep))
    return parts[0] if len(parts) == 1 else ("and", tuple(parts))


def _read_or_part(reader, names, deep):
    """Read an or-part."""
    parts = [_read_and_part(reader, names, deep)]
    while reader.passes("or"):
        parts.append(_read_and_part(reader, names, deep))
    return parts[0] if len(parts) == 1 else ("or", tuple(parts))


def read_formula(reader, names, deep):
    """Read a formula, within as many brackets and nots as deep tells."""
    if not reader.passes("if"):
        return _read_or_part(reader, names, deep)
    told = _read_or_part(reader, names, deep)
    reader.one_of(("then",))
    return ("if", told, _read_or_part(reader, names, deep))


def _part_words(names, part, whole):
    """The words of a formula that is a part of a whole of this sort."""
    words = formula_words(names, part)
    return ["("] + words + [")"] if part[0] in BRACKETED[whole] else words


def formula_words(names, formula):
    """The words that tell a formula."""
    sort = formula[0]
    if sort == "is":
        name, worths = names[formula[1]]
        return [name, worths[formula[2]]]
    if sort == "not":
        return ["not"] + _part_words(names, formula[1], sort)
    if sort == "if":
        told = _part_words(names, formula[1], sort)
        return ["if"] + told + ["then"] + _part_words(names, formula[2], sort)
    words = []
    for part in formula[1]:
        words += [sort] + _part_words(names, part, sort)
    return words[1:]
