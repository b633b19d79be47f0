"""How a house is read from its text."""

from walkrooms.errors import NoText
from walkrooms.houses import MOST_DEEP, is_house
from walkrooms.names import LETTERS
from walkrooms.texts import shown

DEED_WORDS = ("in", "out", "open")


def read(text):
    """The house that is written so; NoText of anything else."""
    if not isinstance(text, str):
        raise NoText("what is read is a text")
    row = Reader(text).read_whole()
    # The reader lets by some texts that no house is written as: brackets that need not be, 0 behind a dot.
    if not is_house(row) or shown(row) != text:
        raise NoText("no house is written so")
    return row


class Reader:
    """Goes once through a text, from its first sign to its last."""

    def __init__(self, text):
        self.text = text
        self.at = 0

    def read_whole(self):
        """The row that all of the text writes."""
        row = () if self.takes("0") else self.read_row(1)
        if self.at != len(self.text):
            raise NoText(f"nothing more can stand at {self.at}")
        return row

    def read_row(self, depth):
        """One part or more, with strokes between."""
        parts = [self.read_part(depth)]
        while self.takes(" | "):
            parts.append(self.read_part(depth))
        return tuple(parts)

    def read_part(self, depth):
        """A part that lies so deep."""
        # Refused here, so that no text, however deep it nests, leads deeper than a house can be.
        if depth > MOST_DEEP:
            raise NoText("too deep")
        if self.takes("!"):
            return ("again", self.read_group(depth + 1))
        if self.takes("<"):
            return ("say", self.read_word_until(">"))
        if self.takes("("):
            return ("hear", self.read_word_until(")"), self.read_waiting(depth + 1))
        word = self.read_word()
        if self.takes("["):
            return ("room", word, self.read_within(depth + 1))
        self.needs(" ")
        if word == "new":
            return ("new", self.read_word_until(" "), self.read_group(depth + 1))
        if word not in DEED_WORDS:
            raise NoText(f"no part begins with {word}")
        return (word, self.read_word(), self.read_waiting(depth + 1))

    def read_within(self, depth):
        """The row within a room, up to its closing bracket."""
        if self.takes("]"):
            return ()
        row = self.read_row(depth)
        self.needs("]")
        return row

    def read_waiting(self, depth):
        """What waits behind a deed or a hear."""
        return self.read_group(depth) if self.takes(".") else ()

    def read_group(self, depth):
        """A row as it is written behind a dot."""
        if self.takes("0"):
            return ()
        if not self.begins_group():
            return (self.read_part(depth),)
        self.needs("(")
        row = self.read_row(depth)
        self.needs(")")
        return row

    def begins_group(self):
        """Whether a bracket stands here that is not that of a hear, around a word alone."""
        if not self.text.startswith("(", self.at):
            return False
        return not self.text.startswith(")", self.word_end(self.at + 1))

    def read_word(self):
        """The small letters that stand here; whether they are a name is asked of the whole house."""
        begin = self.at
        self.at = self.word_end(begin)
        return self.text[begin:self.at]

    def read_word_until(self, sign):
        """The small letters that stand here, and behind them the sign."""
        word = self.read_word()
        self.needs(sign)
        return word

    def word_end(self, begin):
        """The place behind the small letters that stand from begin on."""
        end = begin
        while end < len(self.text) and self.text[end] in LETTERS:
            end += 1
        return end

    def takes(self, signs):
        """Whether these signs stand here; if so, they are gone by."""
        if not self.text.startswith(signs, self.at):
            return False
        self.at += len(signs)
        return True

    def needs(self, signs):
        """Goes by these signs; NoText where others stand."""
        if not self.takes(signs):
            raise NoText(f"{signs} is lacking at {self.at}")
