"""A reader that goes through a writing from its beginning to its end."""

from shapekeep.errors import InvalidText


class Reader:
    """A text and the place up to which it has been read."""

    def __init__(self, text):
        self.text = text
        self.at = 0

    def skips(self, word):
        """Tells whether the word stands here, and goes behind it if so."""
        if not self.text.startswith(word, self.at):
            return False
        self.at += len(word)
        return True

    def needs(self, word):
        """Goes behind the word, which must stand here."""
        if not self.skips(word):
            raise InvalidText(self.text)

    def letters(self):
        """Returns all the lower-case letters that stand here in a row, and goes behind them."""
        start = self.at
        while "a" <= self.text[self.at:self.at + 1] <= "z":
            self.at += 1
        return self.text[start:self.at]

    def ended(self):
        """Tells whether the whole text has been read."""
        return self.at == len(self.text)
