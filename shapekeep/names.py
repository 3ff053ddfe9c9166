"""Names: what fields, variables and templates are called."""

MAX_LETTERS = 12


def is_name(thing):
    """Tells whether any value is a name: one to twelve lower-case letters."""
    if not isinstance(thing, str) or not 1 <= len(thing) <= MAX_LETTERS:
        return False
    return all(["a" <= letter <= "z" for letter in thing])
