"""What is true of claims, found by the rest of the program, and claims that are changed in single parts."""

from shapekeep.errors import InvalidPatches, Misplaced, ShapeError, SizeError, StateError
from shapekeep.escaping import context_of, same_place
from shapekeep.library import Library
from shapekeep.markup import is_tree, parse, write
from shapekeep.pages import patched
from shapekeep.rendering import origins, render

ERRORS = (ShapeError, StateError, SizeError)


class Odd:
    """An object of no kind that the program knows."""


class Same:
    """An object that says of itself that it equals anything."""

    def __eq__(self, other):
        return True


class Bad:
    """An object that cannot be compared, or asked for anything."""

    def __eq__(self, other):
        raise ValueError(5)

    def __len__(self):
        raise LookupError(5)


def library_from(templates):
    """Returns the library that takes the templates one after the other, or None."""
    library = Library()
    if not isinstance(templates, tuple):
        return None
    for triple in templates:
        if not isinstance(triple, tuple) or len(triple) != 3:
            return None
        try:
            library.define(*triple)
        except ERRORS:
            return None
    return library


def exactly(one, other):
    """Tells whether two values are of the same kinds, and equal."""
    if type(one) is not type(other):
        return False
    if isinstance(one, (tuple, list)):
        return len(one) == len(other) and all(map(exactly, one, other))
    return isinstance(one, (str, int)) and one == other


def holds(claim, certificate):
    """Tells whether a claim of one of the forms is true, and has the certificate that it needs."""
    form, *parts = claim
    if form in ("accepted", "misplaced", "page", "shape"):
        library = library_from(parts[0])
        return library is not None and FORMS[form](library, certificate, *parts[1:])
    return FORMS[form](certificate, *parts)


def accepted(library, certificate, name, contexts):
    return (isinstance(name, str) and name in library.names and certificate is None
            and exactly(contexts, library[name].contexts))


def misplaced(library, certificate, name, parameters, body, position, reason):
    try:
        library.define(name, parameters, body)
    except Misplaced as error:
        return certificate is None and exactly((error.position, error.reason), (position, reason))
    except ERRORS:
        pass
    return False


def page(library, certificate, name, data, text):
    try:
        return exactly((render(library, name, data), origins(library, name, data)), (text, certificate))
    except ERRORS:
        return False


def shape(library, certificate, name, data, tree):
    try:
        return certificate is None and is_tree(tree) and write(tree) == render(library, name, data)
    except ERRORS:
        return False


def patches(certificate, old, new):
    try:
        return isinstance(old, str) and exactly(patched(old, certificate), new)
    except InvalidPatches:
        return False


def one_place(certificate, one, other):
    return isinstance(one, str) and isinstance(other, str) and certificate is None and same_place(one, other)


def is_page(text):
    try:
        return parse(text) is not None
    except ShapeError:
        return False


def two_places(certificate, one, other):
    if not all(isinstance(thing, str) for thing in (one, other, certificate)):
        return False
    if context_of(one) is None or context_of(other) is None:
        return False
    return is_page(one + certificate) != is_page(other + certificate)


FORMS = {"accepted": accepted, "misplaced": misplaced, "page": page, "shape": shape, "patched": patches,
         "same place": one_place, "other place": two_places}


def others(value):
    """Returns values that stand in the place of one: of other kinds, and near ones."""
    found = [None, True, False, 0, 1, "", "a", "text", (), {}, [], Odd(), Same(), Bad(), b"a", {"a"}, (None,), ((),),
            str]
    if isinstance(value, str):
        found += [value + "x", value[:-1], "x" + value, value.upper(), (value,), [value], value.encode(), value + "<p>"]
    elif isinstance(value, int) and not isinstance(value, bool):
        found += [value + 1, value - 1, -value, str(value), (value,), bool(value)]
    elif isinstance(value, tuple):
        found += [list(value), value + (None,), value + value, value[:-1], value[1:], value[::-1], (value,),
                "".join(map(str, value))]
    elif isinstance(value, dict):
        found += [{**value, "z": 1}, tuple(value.items()), {key: value[key] for key in list(value)[1:]}]
    return found


def changed(value, levels=12):
    """Yields values in which one part, however deep, is another one."""
    yield from others(value)
    if isinstance(value, tuple):
        for at, part in enumerate(value):
            for other in changed(part, levels - 1) if levels else ():
                yield value[:at] + (other,) + value[at + 1:]
    elif isinstance(value, dict):
        for key in value:
            for other in changed(value[key], levels - 1) if levels else ():
                yield {**value, key: other}
