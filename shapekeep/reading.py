"""A reader that goes through a writing from its beginning to its end."""

from shapekeep.errors import InvalidText
from shapekeep.signs import is_digit, is_letter


class Reader:
    """A text and the place up to which it has been read."""

    def __init__(self, written):
        self.written = written
        self.at = 0

    def skips(self, word):
        """Tells whether the word stands here, and goes behind it if so."""
        if not self.written.startswith(word, self.at):
            return False
        self.at += len(word)
        return True

    def starts(self, is_wanted):
        """Tells whether a character of which this holds stands here."""
        return not self.ended() and is_wanted(self.written[self.at])

    def needs(self, word):
        """Goes behind the word, which must stand here."""
        if not self.skips(word):
            raise InvalidText(self.written)

    def sign(self):
        """Returns the character that stands here, and goes behind it."""
        self.at += 1
        return self.written[self.at - 1]

    def span(self, word):
        """Returns all that stands ahead of the next such word, or ahead of the end, and goes there."""
        start = self.at
        end = self.written.find(word, start)
        self.at = len(self.written) if end < 0 else end
        return self.written[start:self.at]

    def until(self, word):
        """Returns all that stands ahead of the next such word, which must follow, and goes behind the word."""
        found = self.span(word)
        self.needs(word)
        return found

    def letters(self):
        """Returns all the lower-case letters that stand here in a row, and goes behind them."""
        start = self.at
        while self.starts(is_letter):
            self.at += 1
        return self.written[start:self.at]

    def digits(self):
        """Returns all the digits that stand here in a row, and goes behind them."""
        start = self.at
        while self.starts(is_digit):
            self.at += 1
        return self.written[start:self.at]

    def ended(self):
        """Tells whether the whole text has been read."""
        return self.at == len(self.written)
