"""Words: the lines of a text, read word by word."""

from termseats.errors import BadText
from termseats.houses import is_sides

MOST_FIGURES = 7
FIGURES = "0123456789"


def is_number_word(word):
    """Whether a word is a number in decimal, without needless zeros, in few figures."""
    if not 1 <= len(word) <= MOST_FIGURES or not all([sign in FIGURES for sign in word]):
        return False
    return word == "0" or word[0] != "0"


class Line:
    """A line of a text, the words of which are taken one behind the other.

    BadText of the first word that cannot stand where it does, or of the end of the line where a word has to come.
    """

    def __init__(self, text, place):
        self.words = text.split(" ")
        self.place = place
        self.at = 0

    def begins_with(self, word):
        """Whether the first word is this one."""
        return self.words[0] == word

    def is_at_end(self):
        """Whether all words were taken."""
        return self.at == len(self.words)

    def take_one_of(self, words):
        """The next word, which has to be one of some."""
        self._need(not self.is_at_end() and self.words[self.at] in words)
        return self._taken()

    def take_number(self):
        """The number that the next word tells."""
        self._need(not self.is_at_end() and is_number_word(self.words[self.at]))
        return int(self._taken())

    def take_sides(self):
        """The next word, which has to be of one side or more."""
        self._need(not self.is_at_end() and self.words[self.at] != "")
        self._need(is_sides(self.words[self.at], len(self.words[self.at])))
        return self._taken()

    def take_choices(self, wards):
        """The choices of so many wards that the next word tells."""
        if wards == 0:
            self.take_one_of(("-",))
            return ""
        self._need(not self.is_at_end() and is_sides(self.words[self.at], wards))
        return self._taken()

    def end(self):
        """Nothing; all words have to be taken."""
        self._need(self.is_at_end())

    def _need(self, holds):
        if not holds:
            raise BadText(self.place, self.at)

    def _taken(self):
        self.at += 1
        return self.words[self.at - 1]


def need_lines(text):
    """The lines of a text; BadText for what is no string."""
    if not isinstance(text, str):
        raise BadText(None, None)
    return [Line(row, place) for place, row in enumerate(text.split("\n"))]


def need_no_more(lines, many):
    """Nothing; BadText of a line behind so many."""
    if len(lines) > many:
        raise BadText(many, 0)
