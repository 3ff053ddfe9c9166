"""Places: all that matters of the beginning of a page for how it can go on.

A place is a tuple of its kind, of the names of the open elements and of what else matters there; only a place of the
kind "rest" is ("rest", writings, place): one of these writings has to follow, and leads to the place. Two texts lead
to the same place exactly if their places are equal, so whatever makes no difference is left out of them.

Within a literal, the frames tell of the lists and records that have begun: the number of the elements that have begun
for a list, the name of the last field for a record.
"""

from shapekeep.codes import CODES, stands_for_itself
from shapekeep.limits import MAX_ELEMENTS, MAX_LEVELS, MAX_NESTED
from shapekeep.names import MAX_LETTERS
from shapekeep.signs import is_digit, is_letter, is_sign

START = ("text", ())
CONTEXT_KINDS = ("text", "attribute", "part", "query")
ADDRESS = "href"
LITERAL = "data"
LITERAL_END = "</data>"
IN_TEXT = ("amp;", "lt;")
IN_ATTRIBUTE = ("amp;", "lt;", "quot;")
IN_STRING = ("\"", "\\", "l", "n")
LAST_LETTER = "z"
WORDS = {"t": "rue", "f": "alse", "n": "ull"}


def follow(place, text):
    """Returns the place to which the text leads from the place, or None if it leads nowhere."""
    for sign in text:
        place = step(place, sign)
        if place is None:
            return None
    return place


def step(place, sign):
    """Returns the place behind one more character, or None if no page goes on with it."""
    go_on = STEPS[place[0]]
    return go_on(place, sign)


def context_at(place):
    """Returns the context of a place, or "none"."""
    if place[0] in CONTEXT_KINDS:
        return place[0]
    return "data" if place[0] == "value" and not place[2] else "none"


def behind_literal(place):
    """Returns the place behind a whole literal that stands at a data place."""
    return _behind_value(place[1], ())


def open_names(place):
    """Returns the names of the elements that are open at a place."""
    return open_names(place[2]) if place[0] == "rest" else place[1]


def _rest(writing, place):
    """Returns the place from where just this writing goes on to the place."""
    if place[0] == "rest":
        return ("rest", (writing + place[1][0],), place[2])
    return ("rest", (writing,), place)


def _in_rest(place, sign):
    _, writings, target = place
    left = tuple([writing[1:] for writing in writings if writing[0] == sign])
    if not left:
        return None
    return target if left == ("",) else ("rest", left, target)


def _in_text(place, sign):
    if sign == "<":
        return ("less", place[1])
    if sign == "&":
        return ("rest", IN_TEXT, place)
    return place if is_sign(sign) else None


def _behind_less(place, sign):
    names = place[1]
    if sign == "/" and names:
        return _rest(names[-1] + ">", ("text", names[:-1]))
    if len(names) == MAX_NESTED:
        # No element fits in here any more, but a literal does, as it is none.
        return _rest(LITERAL[1:] + ">", ("value", names, ())) if sign == LITERAL[0] else None
    return _named(names, sign) if is_letter(sign) else None


def _named(names, word):
    """Returns the place behind these letters of an element's name."""
    if len(word) == MAX_LETTERS:
        return ("tag", names + (word,))
    return ("name", names, word)


def _in_name(place, sign):
    _, names, word = place
    if is_letter(sign):
        return _named(names, word + sign)
    if word == LITERAL:
        return ("value", names, ()) if sign == ">" else None
    return _in_tag(("tag", names + (word,)), sign)


def _in_tag(place, sign):
    if sign == " ":
        return ("naming", place[1], "")
    return ("text", place[1]) if sign == ">" else None


def _in_naming(place, sign):
    _, names, word = place
    if is_letter(sign):
        return _naming(names, word + sign)
    if sign != "=" or not word:
        return None
    if word == ADDRESS:
        return _rest('"/', ("part", names))
    return _rest('"', ("attribute", names))


def _naming(names, word):
    """Returns the place behind these letters of an attribute's name."""
    if len(word) == MAX_LETTERS:
        return _rest('="', ("attribute", names))
    # Of a name that cannot become the one of an address, only the length matters.
    return ("naming", names, word if ADDRESS.startswith(word) else "-" * len(word))


def _in_attribute(place, sign):
    if sign == '"':
        return ("tag", place[1])
    if sign == "&":
        return ("rest", IN_ATTRIBUTE, place)
    return place if sign != "<" and is_sign(sign) else None


def _in_code(place, sign):
    """Goes on within the codes of a part or of the text of a pair."""
    if sign == '"':
        return ("tag", place[1])
    if sign == "~":
        return ("rest", CODES, place)
    return place if stands_for_itself(sign) else None


def _in_part(place, sign):
    if sign == "/":
        return place
    return ("pairing", place[1], 0) if sign == "?" else _in_code(place, sign)


def _in_query(place, sign):
    return ("pairing", place[1], 0) if sign == ";" else _in_code(place, sign)


def _in_pairing(place, sign):
    _, names, letters = place
    query = ("query", names)
    if is_letter(sign):
        return _rest("=", query) if letters + 1 == MAX_LETTERS else ("pairing", names, letters + 1)
    return query if sign == "=" and letters > 0 else None


def _at_value(place, sign):
    _, names, frames = place
    if sign == '"':
        return ("string", names, frames)
    if sign in WORDS:
        return _rest(WORDS[sign], _behind_value(names, frames))
    if sign == "-":
        return ("minus", names, frames)
    if sign == "0":
        return _behind_value(names, frames)
    if is_digit(sign):
        return ("number", names, frames)
    if len(frames) == MAX_LEVELS:
        return None
    if sign == "[":
        return ("list", names, frames)
    return ("record", names, frames) if sign == "{" else None


def _behind_value(names, frames):
    """Returns the place behind a value; a list or a record that can have no more parts has just its end left."""
    if not frames:
        return _rest(LITERAL_END, ("text", names))
    outer, last = frames[:-1], frames[-1]
    if last == MAX_ELEMENTS:
        return _rest("]", _behind_value(names, outer))
    if last == LAST_LETTER * MAX_LETTERS:
        return _rest("}", _behind_value(names, outer))
    return ("behind", names, frames)


def _behind_part(place, sign):
    _, names, frames = place
    outer, last = frames[:-1], frames[-1]
    if sign == ",":
        if isinstance(last, str):
            return _rest('"', ("key", names, outer, "", last))
        return ("value", names, outer + (last + 1,))
    if sign == ("}" if isinstance(last, str) else "]"):
        return _behind_value(names, outer)
    return None


def _in_list(place, sign):
    """Goes on right behind the bracket of a list."""
    _, names, frames = place
    return _behind_value(names, frames) if sign == "]" else _at_value(("value", names, frames + (1,)), sign)


def _in_record(place, sign):
    """Goes on right behind the brace of a record."""
    _, names, frames = place
    if sign == '"':
        return ("key", names, frames, "", None)
    return _behind_value(names, frames) if sign == "}" else None


def _in_key(place, sign):
    """Goes on in the name of a field, of which the letters and what must be exceeded behind them matter."""
    _, names, frames, word, bound = place
    if sign == '"' and word and bound is None:
        return _rest(":", ("value", names, frames + (word,)))
    if not is_letter(sign):
        return None
    if not bound or sign > bound[0]:
        return _keyed(names, frames, word + sign, None)
    return _keyed(names, frames, word + sign, bound[1:]) if sign == bound[0] else None


def _keyed(names, frames, word, bound):
    """Returns the place behind these letters of the name of a field; what follows must exceed the bound, if any."""
    left = MAX_LETTERS - len(word)
    if bound == LAST_LETTER * left:
        return None
    if left == 0:
        return _rest('":', ("value", names, frames + (word,)))
    return ("key", names, frames, word, bound)


def _in_minus(place, sign):
    return ("number", place[1], place[2]) if is_digit(sign) and sign != "0" else None


def _in_number(place, sign):
    return place if is_digit(sign) else step(_behind_value(place[1], place[2]), sign)


def _in_string(place, sign):
    _, names, frames = place
    if sign == '"':
        return _behind_value(names, frames)
    if sign == "\\":
        return ("rest", IN_STRING, place)
    return place if sign not in ("<", "\n") and is_sign(sign) else None


STEPS = {
    "rest": _in_rest,
    "text": _in_text,
    "less": _behind_less,
    "name": _in_name,
    "tag": _in_tag,
    "naming": _in_naming,
    "attribute": _in_attribute,
    "part": _in_part,
    "query": _in_query,
    "pairing": _in_pairing,
    "value": _at_value,
    "behind": _behind_part,
    "list": _in_list,
    "record": _in_record,
    "key": _in_key,
    "minus": _in_minus,
    "number": _in_number,
    "string": _in_string,
}
