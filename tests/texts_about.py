"""Names, laws and texts to be read and told, by chance."""

from tests.helpers import random_saying
from tests.plain_reading import KEPT

LETTERS = "abcdefghijklmnopqrstuvwxyz"

# The names of DOC.md [57], and the text of [59].
NAMES = (("state", ("draft", "open", "shut")), ("lock", ("off", "on")))
SETTINGS = "settings state draft open shut, lock off on"


def random_name(source):
    if source.random() < 0.6:
        return source.choice("abcdefgh") + source.choice(("", "", "1", "b"))
    while True:
        many = source.choice((1, 2, 3, 12))
        name = source.choice(LETTERS) + "".join(source.choice(LETTERS + "0123456789") for _ in range(many - 1))
        if name not in KEPT:
            return name


def unlike_names(source, many):
    names = []
    while len(names) < many:
        name = random_name(source)
        if name not in names:
            names.append(name)
    return tuple(names)


def random_names(source, most_settings=4, most_worths=4):
    many = source.randint(1, most_settings)
    settings = unlike_names(source, many)
    return tuple((name, unlike_names(source, source.randint(1, most_worths))) for name in settings)


def sizes_told(names):
    return tuple(len(worths) for _, worths in names)


def random_formula(source, sizes, depth):
    """A formula as reading returns it."""
    way = source.random()
    if depth == 0 or way < 0.3:
        setting = source.randrange(len(sizes))
        return ("is", setting, source.randrange(sizes[setting]))
    if way < 0.5:
        return ("not", random_formula(source, sizes, depth - 1))
    if way < 0.65:
        return ("if", random_formula(source, sizes, depth - 1), random_formula(source, sizes, depth - 1))
    parts = tuple(random_formula(source, sizes, depth - 1) for _ in range(source.randint(2, 3)))
    return (source.choice(("and", "or")), parts)


def random_rule(source, sizes):
    if source.random() < 0.5:
        return ("rule", random_formula(source, sizes, source.randint(0, 4)))
    return random_saying(source, sizes)


def random_law(source, most_settings=4):
    names = random_names(source, most_settings)
    return names, tuple(random_rule(source, sizes_told(names)) for _ in range(source.randint(0, 4)))


def spaced(source, words):
    """The words as a text, with more blanks than needed, or fewer."""
    text = ""
    for word in words:
        glued = not text or text[-1] == " " or not (text[-1].isalnum() and word[0].isalnum())
        text += " " * source.choice((0, 1, 1, 1, 2) if glued else (1, 1, 1, 2)) + word
    return text + " " * source.choice((0, 0, 0, 1, 3))


MORE_WORDS = KEPT + list(";,:()-") + ["", "x", "abcdefghijkl", "abcdefghijklm", "0", "7", "07", "1234567", "9a", "aB", "%", "wish"]


def spoilt_words(source, words, spoils):
    """The words with some of them dropped, doubled, swapped, or others put in."""
    words = list(words)
    for _ in range(spoils):
        way = source.random()
        at = source.randrange(len(words) + 1)
        if way < 0.3 or not words:
            words.insert(at, source.choice(MORE_WORDS + words))
        elif way < 0.5:
            del words[at - 1]
        elif way < 0.7:
            words[at - 1] = source.choice(MORE_WORDS + words)
        elif way < 0.85:
            other = source.randrange(len(words))
            words[at - 1], words[other] = words[other], words[at - 1]
        else:
            del words[at:]
    return [word for word in words if word]
