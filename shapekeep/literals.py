"""The literals of values: how they are written, and how whole ones are read."""

from shapekeep.reading import Reader
from shapekeep.types import kind_of

ESCAPES = (("\\", "\\\\"), ("\"", "\\\""), ("\n", "\\n"), ("<", "\\l"))
ESCAPED = {"\\": "\\", "\"": "\"", "n": "\n", "l": "<"}


def write_literal(value):
    """Returns the literal of a value."""
    kind = kind_of(value)
    if kind == "text":
        return _write_text(value)
    if kind == "list":
        return "[" + ",".join([write_literal(part) for part in value]) + "]"
    if kind == "record":
        return "{" + ",".join([f"\"{name}\":" + write_literal(value[name]) for name in sorted(value)]) + "}"
    if kind == "number":
        return str(value)
    if kind == "flag":
        return "true" if value else "false"
    return "null"


def read_literal(literal):
    """Returns the value of which this is the literal."""
    return _read_value(Reader(literal))


def _write_text(text):
    # The backslash comes first, as the others bring backslashes of their own.
    for sign, writing in ESCAPES:
        text = text.replace(sign, writing)
    return f"\"{text}\""


def _read_value(reader):
    for word, value in (("null", None), ("true", True), ("false", False)):
        if reader.skips(word):
            return value
    if reader.skips("\""):
        return _read_text(reader)
    if reader.skips("["):
        return _read_list(reader)
    if reader.skips("{"):
        return _read_record(reader)
    return -int(reader.digits()) if reader.skips("-") else int(reader.digits())


def _read_text(reader):
    """Reads the rest of a text, of which the first quote has been read."""
    signs = []
    while not reader.skips("\""):
        if reader.skips("\\"):
            signs.append(ESCAPED[reader.sign()])
        else:
            signs.append(reader.sign())
    return "".join(signs)


def _read_list(reader):
    """Reads the rest of a list, of which the bracket has been read."""
    parts = []
    while not reader.skips("]"):
        reader.skips(",")
        parts.append(_read_value(reader))
    return tuple(parts)


def _read_record(reader):
    """Reads the rest of a record, of which the brace has been read."""
    found = {}
    while not reader.skips("}"):
        reader.skips(",")
        reader.needs("\"")
        name = reader.letters()
        reader.needs("\":")
        found[name] = _read_value(reader)
    return found
