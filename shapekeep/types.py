"""Values, and the types that say which values a page may be given."""

from shapekeep.errors import InvalidText, InvalidValue
from shapekeep.limits import MAX_ELEMENTS, MAX_LEVELS
from shapekeep.names import is_name
from shapekeep.reading import Reader
from shapekeep.signs import is_text


def is_value(thing):
    """Tells whether any value is a value of templates."""
    return _is_value_within(thing, MAX_LEVELS)


def same(one, other):
    """Tells whether two values are of the same kind and equal, part by part."""
    if not is_value(one):
        raise InvalidValue(one)
    if not is_value(other):
        raise InvalidValue(other)
    return agree(one, other)


class Type:
    """A type, with the types of its parts."""

    def __init__(self, kind, inner=None, key=None, fields=()):
        self.kind = kind
        self.inner = inner
        self.key = key
        self.fields = fields
        self._writing = _writing_of(kind, inner, key, fields)

    @classmethod
    def read(cls, text):
        """Returns the type that a text is the writing of."""
        return _read_whole(text)

    def trouble(self, value):
        """Returns the first path at which the value is not as wanted, or None if it is of the type."""
        return _first_trouble(self, value, ())

    def __contains__(self, x):
        return _first_trouble(self, x, ()) is None

    def __eq__(self, other):
        return isinstance(other, Type) and self._writing == other._writing

    def __str__(self):
        return str(self._writing)

    def __repr__(self):
        return f"Type('{self._writing}')"


def kind_of(thing):
    """Returns the kind that a thing has as a value, or None; what lists and records contain does not matter."""
    if thing is None:
        return "absent"
    # True and False are integers for Python, so they have to be found first.
    if isinstance(thing, bool):
        return "flag"
    if isinstance(thing, int):
        return "number"
    if is_text(thing):
        return "text"
    if isinstance(thing, tuple) and len(thing) <= MAX_ELEMENTS:
        return "list"
    if isinstance(thing, dict) and all([is_name(name) for name in thing]):
        return "record"
    return None


def _is_value_within(thing, levels):
    """Tells whether any value is a value of at most this level."""
    kind = kind_of(thing)
    if kind == "list":
        parts = list(thing)
    elif kind == "record":
        parts = list(thing.values())
    else:
        return kind is not None
    return levels > 0 and all([_is_value_within(part, levels - 1) for part in parts])


def agree(one, other):
    """Tells whether two things that are known to be values, or tuples of values, are the same."""
    if isinstance(one, tuple) and isinstance(other, tuple):
        return len(one) == len(other) and all([agree(part, twin) for part, twin in zip(one, other)])
    if isinstance(one, dict) and isinstance(other, dict):
        return sorted(one) == sorted(other) and all([agree(one[name], other[name]) for name in one])
    return isinstance(one, bool) == isinstance(other, bool) and one == other


def _writing_of(kind, inner, key, fields):
    """Returns the writing of the type that has these parts."""
    if kind == "list":
        return f"[{inner}]"
    if kind == "keyed":
        return f"[{inner} by {key}]"
    if kind == "optional":
        return f"{inner}?"
    if kind == "record":
        return "{" + ", ".join([f"{name}: {part}" for name, part in fields]) + "}"
    return kind


def _read_whole(text):
    """Returns the type that all of the text is the writing of."""
    if not isinstance(text, str):
        raise InvalidText(text)
    reader = Reader(text)
    found = _read_part(reader, MAX_LEVELS)
    if not reader.ended():
        raise InvalidText(text)
    return found


def _read_part(reader, levels):
    """Reads a type in which lists and records are nested at most so many levels deep."""
    found = _read_required(reader, levels)
    if reader.skips("?"):
        return Type("optional", inner=found)
    return found


def _read_required(reader, levels):
    """Reads a type up to the question mark behind it."""
    if levels > 0 and reader.skips("["):
        return _read_list(reader, levels - 1)
    if levels > 0 and reader.skips("{"):
        return _read_record(reader, levels - 1)
    word = reader.letters()
    if word not in ("text", "number", "flag"):
        raise InvalidText(reader.written)
    return Type(word)


def _read_list(reader, levels):
    """Reads the rest of a list type, of which the bracket has been read."""
    inner = _read_part(reader, levels)
    if reader.skips("]"):
        return Type("list", inner=inner)
    reader.needs(" by ")
    key = reader.letters()
    reader.needs("]")
    if not _can_be_key(inner, key):
        raise InvalidText(reader.written)
    return Type("keyed", inner=inner, key=key)


def _can_be_key(inner, key):
    """Tells whether values of this type can be told apart by a field of this name."""
    return any([name == key and part.kind in ("text", "number") for name, part in inner.fields])


def _read_record(reader, levels):
    """Reads the rest of a record type, of which the brace has been read."""
    fields = [_read_field(reader, levels)]
    while not reader.skips("}"):
        reader.needs(", ")
        fields.append(_read_field(reader, levels))
    names = [name for name, part in fields]
    if names != sorted(set(names)):
        raise InvalidText(reader.written)
    return Type("record", fields=tuple(fields))


def _read_field(reader, levels):
    """Reads a field of a record type, and returns its name and its type."""
    name = reader.letters()
    if not is_name(name):
        raise InvalidText(reader.written)
    reader.needs(": ")
    return name, _read_part(reader, levels)


def _first_trouble(wanted, value, path):
    """Returns the first path, from this one on, at which the value is not as wanted, or None."""
    if wanted.kind == "optional":
        return None if value is None else _first_trouble(wanted.inner, value, path)
    form = "list" if wanted.kind == "keyed" else wanted.kind
    if kind_of(value) != form:
        return path
    if form == "list":
        return _trouble_in_list(wanted, value, path)
    if form == "record":
        return _trouble_in_record(wanted.fields, value, path)
    return None


def _trouble_in_list(wanted, rows, path):
    """Returns the first path to what is wrong within a list, or None."""
    for index, row in enumerate(rows):
        found = _first_trouble(wanted.inner, row, path + (index,))
        if found is not None:
            return found
        # The rows up to here have the wanted type, so all of them have the key.
        if wanted.key is not None and row[wanted.key] in [earlier[wanted.key] for earlier in rows[:index]]:
            return path + (index,)
    return None


def _trouble_in_record(fields, record, path):
    """Returns the first path to what is wrong within a record, or None."""
    wanted_names = [name for name, part in fields]
    if any([name not in wanted_names for name in record]):
        return path
    for field, wanted in fields:
        if field not in record:
            return path + (field,)
        found = _first_trouble(wanted, record[field], path + (field,))
        if found is not None:
            return found
    return None
