"""Signs: the characters that texts may have."""

NEWLINE = 10
SPACE = 32
PERCENT = 37
TILDE = 126


def is_sign(sign):
    """Tells whether texts may have this character."""
    code = ord(sign)
    return code == NEWLINE or SPACE <= code <= TILDE and code != PERCENT


def is_text(thing):
    """Tells whether any value is a text of such characters."""
    return isinstance(thing, str) and all([is_sign(sign) for sign in thing])


def is_letter(sign):
    """Tells whether a character is one of those that names are made of."""
    return "a" <= sign <= "z"


def is_digit(sign):
    """Tells whether a character is a decimal digit."""
    return "0" <= sign <= "9"
