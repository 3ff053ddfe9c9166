"""What the checker knows of values, their literals, and types.

A type is a tuple: ("text",), ("number",), ("flag",), ("optional", T), ("list", T, a) with a name or None, or
("record", fields) with pairs of a name and a type.
"""

from shapekeep.limits import MAX_ELEMENTS, MAX_LEVELS
from shapekeep.proof_signs import Scan, demand, is_name, is_number, is_text

PLAIN_TYPES = ("text", "number", "flag")
STRING_CODES = {"\\": "\\\\", "\"": "\\\"", "\n": "\\n", "<": "\\l"}


def is_value(thing, levels=MAX_LEVELS):
    """Tells whether any value is a value of at most so many levels."""
    if isinstance(thing, tuple):
        return levels > 0 and len(thing) <= MAX_ELEMENTS and all([is_value(part, levels - 1) for part in thing])
    if isinstance(thing, dict):
        return (levels > 0 and all([is_name(name) for name in thing])
                and all([is_value(part, levels - 1) for part in thing.values()]))
    return thing is None or isinstance(thing, int) or is_text(thing)


def literal_of(value):
    """Returns the literal of a value."""
    if value is None:
        return "null"
    if isinstance(value, bool):
        return "true" if value else "false"
    if isinstance(value, int):
        return str(value)
    if isinstance(value, str):
        return "\"" + "".join([STRING_CODES.get(sign, sign) for sign in value]) + "\""
    if isinstance(value, tuple):
        return "[" + ",".join([literal_of(part) for part in value]) + "]"
    return "{" + ",".join([f"\"{name}\":{literal_of(value[name])}" for name in sorted(value)]) + "}"


def has_type(value, wanted):
    """Tells whether any value is one of a type."""
    kind = wanted[0]
    if kind == "optional":
        return value is None or has_type(value, wanted[1])
    if kind == "text":
        return is_text(value)
    if kind == "number":
        return is_number(value)
    if kind == "flag":
        return isinstance(value, bool)
    return _is_list(value, wanted[1], wanted[2]) if kind == "list" else _is_record(value, wanted[1])


def _is_list(value, inner, key):
    """Tells whether any value is a list of elements of a type, with different keys if there is one."""
    if not isinstance(value, tuple) or len(value) > MAX_ELEMENTS or not all([has_type(row, inner) for row in value]):
        return False
    return key is None or len({row[key] for row in value}) == len(value)


def _is_record(value, fields):
    """Tells whether any value is a record with just these fields."""
    if not isinstance(value, dict) or not all([isinstance(name, str) for name in value]):
        return False
    return len(value) == len(fields) and all([name in value and has_type(value[name], part) for name, part in fields])


def read_type(text):
    """Returns the type of which this is the writing."""
    scan = Scan(text)
    found = _type_at(scan, MAX_LEVELS)
    scan.finish()
    return found


def _type_at(scan, levels):
    """Reads a type that comes next."""
    found = _required_type_at(scan, levels)
    return ("optional", found) if scan.has("?") else found


def _required_type_at(scan, levels):
    """Reads a type that comes next, up to its question mark."""
    for word in PLAIN_TYPES:
        if scan.has(word):
            return (word,)
    demand(levels > 0)
    if scan.has("["):
        return _type_of_list_at(scan, levels - 1)
    scan.want("{")
    return _type_of_record_at(scan, levels - 1)


def _type_of_list_at(scan, levels):
    """Reads a list type behind its bracket."""
    inner = _type_at(scan, levels)
    key = None
    if scan.has(" by "):
        key = scan.take_name()
        demand(inner[0] == "record" and ((key, ("text",)) in inner[1] or (key, ("number",)) in inner[1]))
    scan.want("]")
    return ("list", inner, key)


def _type_of_record_at(scan, levels):
    """Reads a record type behind its brace."""
    fields = []
    while not fields or scan.has(", "):
        name = scan.take_name()
        demand(not fields or fields[-1][0] < name)
        scan.want(": ")
        fields.append((name, _type_at(scan, levels)))
    scan.want("}")
    return ("record", tuple(fields))
