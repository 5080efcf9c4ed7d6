"""Words of texts [58], and what can stand where: a text is read from the left."""

from onlyforced.errors import BadText, NoName, NoWorth

KEPT_WORDS = ("settings", "rule", "own", "tied", "either", "if", "then", "or", "and", "not")
LETTERS = "abcdefghijklmnopqrstuvwxyz"
FIGURES = "0123456789"
MOST_SIGNS = 20000
LONGEST_NAME = 12
MOST_FIGURES = 6


def plain_name(thing):
    """Whether thing is a name."""
    if not isinstance(thing, str) or not 1 <= len(thing) <= LONGEST_NAME or thing in KEPT_WORDS:
        return False
    return thing[0] in LETTERS and all([sign in LETTERS or sign in FIGURES for sign in thing])


def _figure_word(word):
    """Whether a word is a figure word."""
    if not 1 <= len(word) <= MOST_FIGURES or not all([sign in FIGURES for sign in word]):
        return False
    return word == "0" or word[0] != "0"


def must_be_text(thing):
    """Refuse what is no text that can be read."""
    if not isinstance(thing, str):
        raise BadText(-1)
    for index, sign in enumerate(thing[:MOST_SIGNS]):
        if not " " <= sign <= "~":
            raise BadText(index)
    if len(thing) > MOST_SIGNS:
        raise BadText(MOST_SIGNS)


def _words_of(text):
    """The words of a text, each with its place."""
    words = []
    begun = None
    # The blank behind the text ends a word that stands at its end.
    for place, sign in enumerate(text + " "):
        if sign in LETTERS or sign in FIGURES:
            if begun is None:
                begun = place
        else:
            if begun is not None:
                words.append((text[begun:place], begun))
                begun = None
            if sign != " ":
                words.append((sign, place))
    return words


class Reader:
    """The words of a text, one of which is next. Past the last one stands "", which is no word."""

    def __init__(self, text):
        must_be_text(text)
        self._words = _words_of(text) + [("", len(text))]
        self._at = 0

    def word(self):
        """The next word."""
        return self._words[self._at][0]

    def place(self):
        """The place of the next word."""
        return self._words[self._at][1]

    def at_name(self):
        """Whether a name is next."""
        return plain_name(self.word())

    def _pass(self):
        """Pass the next word, and return it."""
        word = self.word()
        self._at += 1
        return word

    def passes(self, word):
        """Whether this word is next; if so, it is read."""
        if self.word() != word:
            return False
        self._pass()
        return True

    def one_of(self, words):
        """Read a word that has to be one of these."""
        if self.word() not in words:
            raise BadText(self.place())
        return self._pass()

    def name(self):
        """Read a name."""
        if not self.at_name():
            raise BadText(self.place())
        return self._pass()

    def number(self):
        """Read the number of a figure word."""
        if not _figure_word(self.word()):
            raise BadText(self.place())
        return int(self._pass())

    def end(self):
        """Refuse to end if a word is next."""
        if self.word() != "":
            raise BadText(self.place())

    def setting(self, names):
        """Read the name of a setting, and return the setting."""
        place = self.place()
        told = self.name()
        for setting, (name, _) in enumerate(names):
            if name == told:
                return setting
        raise NoName(place)

    def worth(self, names, setting):
        """Read the name of a worth of the setting, and return the worth."""
        place = self.place()
        told = self.name()
        _, worths = names[setting]
        if told not in worths:
            raise NoWorth(place)
        return worths.index(told)
