"""Terms: expressions as they are read, with their parts, their types and their values."""

from shapekeep.errors import InvalidText, TypeTrouble
from shapekeep.names import is_name, is_variable
from shapekeep.signs import is_digit, is_text
from shapekeep.types import Type

MAX_TERM_LEVELS = 8
MAX_CHARACTERS = 60
MAX_DIGITS = 15
MAX_NUMBER = 10 ** 15 - 1
# The functions, with the numbers of their arguments; None: one or more.
FUNCTIONS = {"equal": 2, "less": 2, "not": 1, "both": 2, "either": 2, "sum": None, "joined": None, "size": 1, "has": 1,
             "or_else": 2}
PLAIN = ("text", "number", "flag")


class Term:
    """A part of an expression: a variable with its fields, a plain value, or a function with its arguments."""

    def __init__(self, word, writing, names=(), worth=None, parts=()):
        self.word = word
        self.writing = writing
        self.names = names
        self.worth = worth
        self.parts = parts


def read_term(reader, levels=MAX_TERM_LEVELS):
    """Reads an expression of at most this level, which must stand here, and goes behind it."""
    for word in FUNCTIONS:
        if reader.skips(word + "("):
            return _read_call(reader, word, levels - 1)
    if reader.skips("\""):
        return _read_text(reader)
    if reader.skips("-"):
        return _read_number(reader, "-")
    if reader.starts(is_digit):
        return _read_number(reader, "")
    return _read_word(reader)


def call_term(word, parts):
    """Returns the term of a function with these arguments."""
    return Term(word, f"{word}(" + ", ".join([part.writing for part in parts]) + ")", parts=parts)


def plain_term(value):
    """Returns the term that is just this text, number or flag, or None if there is none."""
    if isinstance(value, bool):
        return Term("flag", "true" if value else "false", worth=value)
    if isinstance(value, int):
        return Term("number", str(value), worth=value) if abs(value) <= MAX_NUMBER else None
    if len(value) > MAX_CHARACTERS or not is_text(value) or [sign for sign in "\"{}\n" if sign in value]:
        return None
    return Term("text", f"\"{value}\"", worth=value)


def reads_of(term):
    """Returns the variables with their fields in a term, in the order in which they are written."""
    if term.word == "variable":
        return [term.names]
    return [names for part in term.parts for names in reads_of(part)]


def type_of(term, scope):
    """Returns the Type of a term for variables of the Types in the scope."""
    found = _type_behind(term, [type_of(part, scope) for part in term.parts], scope)
    if found is None:
        raise TypeTrouble(term.writing)
    return found


def value_of(term, values):
    """Returns the value of a term for variables of these values."""
    if term.word == "variable":
        found = values
        for name in term.names:
            found = found[name]
        return found
    if term.word in PLAIN:
        return term.worth
    return _value_behind(term.word, [value_of(part, values) for part in term.parts])


def _read_call(reader, word, levels):
    """Reads the arguments of a function, of which the bracket has been read, and its end."""
    if levels == 0:
        raise InvalidText(reader.written)
    parts = [read_term(reader, levels)]
    while reader.skips(", "):
        parts.append(read_term(reader, levels))
    reader.needs(")")
    if FUNCTIONS[word] not in (None, len(parts)):
        raise InvalidText(reader.written)
    return call_term(word, tuple(parts))


def _read_text(reader):
    """Reads the rest of a text, of which the first quote has been read."""
    found = plain_term(reader.until("\""))
    if found is None:
        raise InvalidText(reader.written)
    return found


def _read_number(reader, sign):
    """Reads the digits of a number behind its sign."""
    digits = reader.digits()
    if not 1 <= len(digits) <= MAX_DIGITS or digits[0] == "0" and sign + digits != "0":
        raise InvalidText(reader.written)
    return plain_term(int(sign + digits))


def _read_word(reader):
    """Reads a flag, or a variable with its fields."""
    word = reader.letters()
    if word in ("true", "false"):
        return plain_term(word == "true")
    if not is_variable(word):
        raise InvalidText(reader.written)
    names = [word]
    while reader.skips("."):
        field = reader.letters()
        if not is_name(field):
            raise InvalidText(reader.written)
        names.append(field)
    return Term("variable", ".".join(names), names=tuple(names))


def _type_behind(term, inner, scope):
    """Returns the Type of a term, of which the arguments have these Types, or None."""
    if term.word == "variable":
        return _type_at(term.names, scope)
    if term.word in PLAIN:
        return Type(term.word)
    kinds = [one.kind for one in inner]
    if term.word == "or_else":
        return inner[1] if kinds[0] == "optional" and inner[0].inner == inner[1] else None
    found = _kind_behind(term.word, kinds)
    return None if found is None else Type(found)


def _type_at(names, scope):
    """Returns the Type that the names lead to, or None."""
    fields = scope
    found = None
    for name in names:
        if name not in fields:
            return None
        found = fields[name]
        fields = dict(found.fields)
    return found


def _kind_behind(word, kinds):
    """Returns the kind of what a function gives for arguments of these kinds, or None."""
    if word == "equal":
        return "flag" if kinds[0] == kinds[1] and kinds[0] in PLAIN else None
    if word == "has":
        return "flag" if kinds == ["optional"] else None
    if word == "size":
        return "number" if kinds[0] in ("list", "keyed") else None
    if word == "joined":
        return "text" if all([kind in ("text", "number") for kind in kinds]) else None
    wanted = "number" if word in ("less", "sum") else "flag"
    if any([kind != wanted for kind in kinds]):
        return None
    return "number" if word == "sum" else "flag"


def _value_behind(word, worths):
    """Returns what a function gives for these arguments."""
    if word == "sum":
        return sum(worths)
    if word == "joined":
        return "".join([str(worth) for worth in worths])
    if word == "size":
        return len(worths[0])
    if word == "has":
        return worths[0] is not None
    if word == "not":
        return not worths[0]
    first, second = worths
    if word == "equal":
        return first == second
    if word == "less":
        return first < second
    if word == "both":
        return first and second
    if word == "either":
        return first or second
    return second if first is None else first
