"""Contexts: how values are escaped in them, and where in a page they are."""

from shapekeep.codes import read_code, read_text, write_attribute, write_code, write_text
from shapekeep.errors import InvalidContext, InvalidText, InvalidValue
from shapekeep.literals import read_literal, write_literal
from shapekeep.places import LITERAL_END, START, context_at, follow
from shapekeep.types import is_value, kind_of

CONTEXTS = ("text", "attribute", "part", "query", "data")
# What leads to a place of each context, and the signs that end there what an escape may be.
BEGINNINGS = {"text": "", "attribute": "<a b=\"", "part": "<a href=\"/", "query": "<a href=\"/?b=", "data": "<data>"}
ENDS = {"text": "<", "attribute": "\"", "part": "\"/?", "query": "\";", "data": "<"}


def escape(context, value):
    """Returns the escape of a value in a context."""
    if not is_context(context):
        raise InvalidContext(context)
    if not (is_value(value) if context == "data" else kind_of(value) in ("text", "number")):
        raise InvalidValue(value)
    if context == "data":
        return write_literal(value)
    text = str(value)
    if context == "text":
        return write_text(text)
    return write_attribute(text) if context == "attribute" else write_code(text)


def unescape(context, text):
    """Returns the text, or in "data" the value, of which this is the escape."""
    if not is_context(context):
        raise InvalidContext(context)
    if not isinstance(text, str) or not _is_escape(context, text):
        raise InvalidText(text)
    if context == "data":
        return read_literal(text)
    return read_text(text) if context in ("text", "attribute") else read_code(text)


def context_of(text):
    """Returns the context of the place to which a text leads, "none" if there is none, None if it leads nowhere."""
    place = _place_of(text)
    return None if place is None else context_at(place)


def same_place(one, other):
    """Tells whether two texts lead to the same place."""
    place = _place_of(one)
    return place == _place_of(other) and place is not None


def is_context(thing):
    """Tells whether any value is a context."""
    return isinstance(thing, str) and thing in CONTEXTS


def _place_of(text):
    if not isinstance(text, str):
        raise InvalidText(text)
    return follow(START, text)


def _is_escape(context, text):
    """Tells whether a text is the escape of something: nothing in it ends its place, and the page goes on behind it."""
    if [sign for sign in ENDS[context] if sign in text]:
        return False
    place = follow(START, BEGINNINGS[context])
    if context == "data":
        return follow(place, text + LITERAL_END) == START
    return follow(place, text) == place
