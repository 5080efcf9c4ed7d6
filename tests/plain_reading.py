"""Texts read by other means than the program's: word by word with a list of what is under way.

What is refused raises Wrong, with the name of the error's class and its what.
"""

import re

KEPT = "settings rule own tied either if then or and not".split()


class Wrong(Exception):
    def __init__(self, error, what):
        super().__init__(error, what)
        self.told = (error, what)


def is_name(word):
    return re.fullmatch("[a-z][a-z0-9]{0,11}", word) is not None and word not in KEPT


class Plain:
    """The words of a text from the left."""

    def __init__(self, text):
        if not isinstance(text, str):
            raise Wrong("BadText", -1)
        wrong = [at for at, sign in enumerate(text) if at == 20000 or not 32 <= ord(sign) <= 126]
        if wrong:
            raise Wrong("BadText", wrong[0])
        self.words = [(one.group(), one.start()) for one in re.finditer("[a-z0-9]+|[^ ]", text)]
        self.words.append(("", len(text)))

    @property
    def next(self):
        return self.words[0][0]

    @property
    def place(self):
        return self.words[0][1]

    def take(self, fits):
        word, place = self.words[0]
        if word == "" or not fits(word):
            raise Wrong("BadText", place)
        self.words.pop(0)
        return word, place

    def word(self, *words):
        return self.take(lambda word: word in words)

    def number(self):
        return int(self.take(lambda word: re.fullmatch("0|[1-9][0-9]{0,5}", word))[0])

    def setting(self, names):
        word, place = self.take(is_name)
        known = [name for name, _ in names]
        if word not in known:
            raise Wrong("NoName", place)
        return known.index(word), place

    def worth(self, names, setting):
        word, place = self.take(is_name)
        if word not in names[setting][1]:
            raise Wrong("NoWorth", place)
        return names[setting][1].index(word), place

    def end(self):
        if self.next != "":
            raise Wrong("BadText", self.place)


def read_unlike(plain, read, ahead):
    """Read what must not be among what stands ahead."""
    found, place = read()
    if found in ahead:
        raise Wrong("Twice", place)
    ahead.append(found)
    return found


def names_of(plain):
    plain.word("settings")
    names = []
    while True:
        name, place = plain.take(is_name)
        if len(names) == 24:
            raise Wrong("TooMany", place)
        if name in [one for one, _ in names]:
            raise Wrong("Twice", place)
        worths = []
        while not worths or is_name(plain.next):
            worth, place = plain.take(is_name)
            if len(worths) == 6:
                raise Wrong("TooMany", place)
            if worth in worths:
                raise Wrong("Twice", place)
            worths.append(worth)
        names.append((name, tuple(worths)))
        if plain.next != ",":
            return tuple(names)
        plain.word(",")


def looked_at_formula(plain, names):
    """The words of a formula, from the left, with what is under way in a list: no tree is built.

    In the list stands "not", or for brackets how far a formula in them has come: "if", "then" or
    "plain".
    """
    words, under_way, here, wants = [], [], "plain", "formula"

    def told(word):
        words.append(word)
        return word

    while True:
        if wants in ("formula", "unit"):
            if is_name(plain.next):
                setting, _ = plain.setting(names)
                told(("is", setting, plain.worth(names, setting)[0]))
            else:
                word, place = plain.word(*(("not", "(", "if") if wants == "formula" else ("not", "(")))
                told(word)
                if word == "if":
                    here, wants = "if", "unit"
                    continue
                if len(under_way) == 30:
                    raise Wrong("TooDeep", place)
                if word == "not":
                    under_way.append("not")
                    wants = "unit"
                else:
                    under_way.append(here)
                    here, wants = "plain", "formula"
                continue
        # Behind a unit all nots that it ends are ended.
        while under_way and under_way[-1] == "not":
            under_way.pop()
        if plain.next in ("and", "or"):
            told(plain.word("and", "or")[0])
            wants = "unit"
        elif here == "if":
            told(plain.word("then")[0])
            here, wants = "then", "unit"
        elif under_way:
            told(plain.word(")")[0])
            here, wants = under_way.pop(), None
        else:
            return words


def split_at(words, sign):
    """The words between those words that are sign and stand in no brackets."""
    parts, deep = [[]], 0
    for word in words:
        deep += (word == "(") - (word == ")")
        if word == sign and deep == 0:
            parts.append([])
        else:
            parts[-1].append(word)
    return parts


def built(words):
    """The formula that right words tell."""
    if words[0] == "if":
        told, forced = split_at(words[1:], "then")
        return ("if", built(told), built(forced))
    for sign in ("or", "and"):
        parts = split_at(words, sign)
        if len(parts) > 1:
            return (sign, tuple(built(part) for part in parts))
    if words[0] == "not":
        return ("not", built(words[1:]))
    return built(words[1:-1]) if words[0] == "(" else words[0]


def rule_of(plain, names, sort):
    if sort == "rule":
        return ("rule", built(looked_at_formula(plain, names)))
    one, _ = plain.setting(names)
    if sort == "own":
        worths = []
        while not worths or is_name(plain.next):
            read_unlike(plain, lambda: plain.worth(names, one), worths)
        return ("own", one, tuple(sorted(worths)))
    if sort == "either":
        a, _ = plain.worth(names, one)
    two = read_unlike(plain, lambda: plain.setting(names), [one])
    if sort == "either":
        pairs = sorted([(one, a), (two, plain.worth(names, two)[0])])
        return ("either", *pairs[0], *pairs[1])
    plain.word(":")
    firsts, seconds = [], []
    while True:
        read_unlike(plain, lambda: plain.worth(names, one), firsts)
        read_unlike(plain, lambda: plain.worth(names, two), seconds)
        if plain.next != ",":
            break
        plain.word(",")
    if one > two:
        one, two, firsts, seconds = two, one, seconds, firsts
    return ("tied", one, two, tuple(sorted(zip(firsts, seconds))))


def plain_law(text):
    """The names and the rules of a law's text."""
    plain = Plain(text)
    names, rules = names_of(plain), []
    while plain.next == ";":
        plain.word(";")
        sort, place = plain.word("rule", "own", "tied", "either")
        if len(rules) == 400:
            raise Wrong("TooMany", place)
        rules.append(rule_of(plain, names, sort))
    plain.end()
    return names, tuple(rules)


def edit_of(plain, names):
    """An edit, up to a word that does not belong to it."""
    if plain.next == "-":
        plain.word("-")
        return ()
    told, edit = [], []
    while True:
        setting = read_unlike(plain, lambda: plain.setting(names), told)
        edit.append((setting, plain.worth(names, setting)[0]))
        if plain.next != ",":
            return tuple(sorted(edit))
        plain.word(",")


def plain_edit(names, text):
    plain = Plain(text)
    edit = edit_of(plain, names)
    plain.end()
    return edit


def plain_page(names, text):
    plain = Plain(text)
    page = tuple(plain.worth(names, setting)[0] for setting in range(len(names)))
    plain.end()
    return page
