"""What the checker knows of characters, names and texts, and how it compares what it is given."""

LETTERS = "abcdefghijklmnopqrstuvwxyz"
DIGITS = "0123456789"
# The signs that stand for themselves in addresses, those that do not, and the codes of the latter in the same order.
PLAIN = "abcdefghijklmnopqrstuvwxyzABCDEFGHIJKLMNOPQRSTUVWXYZ0123456789-_."
CODED = "\n !\"#$&'()*+,/:;<=>?@[\\]^`{|}~"
CODES = ("0a", "20", "21", "22", "23", "24", "26", "27", "28", "29", "2a", "2b", "2c", "2f", "3a", "3b", "3c", "3d",
         "3e", "3f", "40", "5b", "5c", "5d", "5e", "60", "7b", "7c", "7d", "7e")
NAME_LENGTH = 12


class Doubt(ValueError):
    """Something is not as it must be for a claim to be true."""


class Scan:
    """A text, and how far it has been read."""

    def __init__(self, given):
        self.given = given
        self.at = 0

    def next_is(self, signs):
        """Tells whether one of these signs comes next."""
        return self.at < len(self.given) and self.given[self.at] in signs

    def has(self, word):
        """Tells whether a word comes next, and goes behind it if so."""
        found = self.given[self.at:self.at + len(word)] == word
        if found:
            self.at += len(word)
        return found

    def want(self, word):
        """Goes behind a word that must come next."""
        if not self.has(word):
            raise Doubt()

    def row(self, signs):
        """Returns all characters in a row that are among these signs, and goes behind them."""
        start = self.at
        while self.next_is(signs):
            self.at += 1
        return self.given[start:self.at]

    def until(self, sign):
        """Returns all up to a sign that must follow, and goes behind it."""
        end = self.given.find(sign, self.at)
        demand(end >= 0)
        start = self.at
        self.at = end + 1
        return self.given[start:end]

    def take_name(self):
        """Returns the name that must come next, and goes behind it."""
        found = self.row(LETTERS)
        demand(is_name(found))
        return found

    def take_variable(self):
        """Returns the name of a variable that must come next, and goes behind it."""
        found = self.take_name()
        demand(is_variable(found))
        return found

    def finish(self):
        """Looks whether the whole text has been read."""
        demand(self.at == len(self.given))


def demand(condition):
    """Goes on only if a condition holds."""
    if not condition:
        raise Doubt()


def is_sign(sign):
    """Tells whether texts may have this character."""
    return sign in PLAIN or sign in CODED


def is_text(thing):
    """Tells whether any value is a text of values."""
    return isinstance(thing, str) and all([is_sign(sign) for sign in thing])


def is_name(thing):
    """Tells whether any value is a name."""
    return (isinstance(thing, str) and 1 <= len(thing) <= NAME_LENGTH
            and all([sign in LETTERS for sign in thing]))


def is_variable(thing):
    """Tells whether any value is the name of a variable."""
    return is_name(thing) and thing not in ("true", "false", "self")


def is_number(thing):
    """Tells whether any value is an integer."""
    return isinstance(thing, int) and not isinstance(thing, bool)


def is_tuple(thing, size):
    """Tells whether any value is a tuple of so many elements."""
    return isinstance(thing, tuple) and len(thing) == size


def is_just(wanted, given):
    """Tells whether any value is a wanted text or integer, or a tuple of such, of the same kinds all over."""
    if isinstance(wanted, tuple):
        return is_tuple(given, len(wanted)) and all([is_just(part, twin) for part, twin in zip(wanted, given)])
    if isinstance(wanted, str):
        return isinstance(given, str) and wanted == given
    return is_number(given) and wanted == given
