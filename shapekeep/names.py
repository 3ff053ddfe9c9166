"""Names: what fields, variables and templates are called."""

from shapekeep.signs import is_letter

MAX_LETTERS = 12
RESERVED = ("true", "false", "self")


def is_name(thing):
    """Tells whether any value is a name: one to twelve lower-case letters."""
    if not isinstance(thing, str) or not 1 <= len(thing) <= MAX_LETTERS:
        return False
    return all([is_letter(letter) for letter in thing])


def is_variable(thing):
    """Tells whether any value is what a variable or a parameter may be called."""
    return is_name(thing) and thing not in RESERVED
