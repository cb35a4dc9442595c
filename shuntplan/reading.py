"""Reading the text of a layout, and finding how far a wrong one is right."""

from shuntplan.errors import ParseError
from shuntplan.trains import LETTERS, MOST_WAGONS, NAME_LENGTH, Line, Ring

# From a place in the text and the character there to the place behind it; "a" stands for each letter.
FOLLOWERS = {
    ("train", "("): "ring",
    ("train", "-"): "line sign",
    ("train", "a"): "line name",
    ("line", "/"): "slash",
    ("line", "-"): "line sign",
    ("line", "a"): "line name",
    ("line sign", "a"): "line name",
    ("line name", "a"): "line name",
    ("line name", " "): "line",
    ("ring", "-"): "ring sign",
    ("ring", "a"): "ring name",
    ("ring sign", "a"): "ring name",
    ("ring name", "a"): "ring name",
    ("ring name", " "): "ring",
    ("ring name", ")"): "closed",
    ("closed", " "): "gap",
    ("gap", "/"): "slash",
    ("slash", " "): "train",
}


def can_become_new(name, used):
    """Whether there is a name that begins so and is not used."""
    if name not in used:
        return len(name) <= NAME_LENGTH
    return any([can_become_new(name + letter, used) for letter in LETTERS])


class Reader:
    """Takes a text character by character, as long as a readable text can begin so."""

    def __init__(self):
        self._place = "train"
        self._name = ""
        self._used = []

    def take(self, char):
        """Takes one more character; False if no readable text goes on so."""
        letter = char in LETTERS
        self._place = FOLLOWERS.get((self._place, "a" if letter else char))
        if self._place is None:
            return False
        if letter:
            self._name = self._name + char
            return can_become_new(self._name, self._used)
        return self._end_name() and (char != " " or len(self._used) < MOST_WAGONS)

    def _end_name(self):
        """Ends the name, if one was being read; False if it is used already."""
        if self._name in self._used:
            return False
        if self._name != "":
            self._used.append(self._name)
            self._name = ""
        return True

    def can_end(self):
        """Whether the characters so far, of which there is at least one, are a readable text."""
        return self._place in ("line name", "closed") and self._name not in self._used


def check_readable(text):
    """Raises ParseError unless the value is a readable text."""
    if not isinstance(text, str):
        raise ParseError(0)
    reader = Reader()
    for offset, char in enumerate(text):
        if not reader.take(char):
            raise ParseError(offset)
    if text != "" and not reader.can_end():
        raise ParseError(len(text))


def directed_read(word):
    """The directed wagon with this text."""
    return (word[1:], -1) if word.startswith("-") else (word, 1)


def row_read(text):
    """The row with this text."""
    return tuple([directed_read(word) for word in text.split(" ")])


def train_read(text):
    """The train with this text, brackets included."""
    if text.startswith("("):
        return Ring(row_read(text[1:-1]))
    return Line(row_read(text))


def trains_read(text):
    """The list of the trains of a text, in its order; ParseError if it is not readable."""
    check_readable(text)
    if text == "":
        return []
    return [train_read(part) for part in text.split(" / ")]
