"""What the checker knows of places.

A place is a tuple of all that has to come up to the end of the page, what comes next first. A text of one character is
this character. The others are tuples: words of which one comes, or what else can come, with what limits it.
"""

from shapekeep.limits import MAX_ELEMENTS, MAX_LEVELS, MAX_NESTED
from shapekeep.proof_signs import CODES, DIGITS, LETTERS, NAME_LENGTH, PLAIN, is_sign

ROOT = (("nodes", "", 0),)
PLACES_OF_TEXTS = {"nodes": "text", "attribute": "attribute", "part": "part", "query": "query"}
LAST_NAME = "zzzzzzzzzzzz"
WORDS = {"t": "rue", "f": "alse", "n": "ull"}


def follow(place, text):
    """Returns the place behind a text, or None if no page goes on so."""
    for sign in text:
        place = step(place, sign)
        if place is None:
            return None
    return place


def step(place, sign):
    """Returns the place behind one more character, or None."""
    first, rest = place[0], place[1:]
    if isinstance(first, str):
        return rest if sign == first else None
    go_on = STEPS[first[0]]
    return go_on(first, rest, sign)


def context_at(place):
    """Returns the context of a place, or "none"."""
    first = place[0]
    if first == ("value", MAX_LEVELS):
        return "data"
    return "none" if isinstance(first, str) else PLACES_OF_TEXTS.get(first[0], "none")


def open_elements(place):
    """Returns how many elements are open at a text place, and 0 at other ones."""
    return place[0][2] if place[0][0] == "nodes" else 0


def _spelled(word, rest):
    """Returns the place where a word comes next."""
    return tuple(word) + rest


def _one_of(words, rest):
    """Returns the place where one of several words comes next."""
    return _spelled(words[0], rest) if len(words) == 1 else (("words", words),) + rest


def _in_words(first, rest, sign):
    left = tuple([word[1:] for word in first[1] if word[0] == sign])
    return _one_of(left, rest) if left else None


def _in_nodes(first, rest, sign):
    if sign == "<":
        return (("markup",) + first[1:],) + rest
    if sign == "&":
        return _one_of(("amp;", "lt;"), (first,) + rest)
    return (first,) + rest if is_sign(sign) else None


def _in_markup(first, rest, sign):
    """Goes on behind a `<` between nodes."""
    _, name, depth = first
    if sign == "/" and name:
        return _spelled(name + ">", rest)
    inside = (("nodes", name, depth),) + rest
    if depth == MAX_NESTED:
        return _spelled("ata>", _before_value(inside)) if sign == "d" else None
    return _called(sign, inside) if sign in LETTERS else None


def _before_value(rest):
    """Returns the place behind `<data>`."""
    return (("value", MAX_LEVELS),) + _spelled("</data>", rest)


def _called(word, rest):
    """Returns the place behind letters of the name of an element."""
    return (("tag" if len(word) == NAME_LENGTH else "called", word),) + rest


def _in_called(first, rest, sign):
    word = first[1]
    if sign in LETTERS:
        return _called(word + sign, rest)
    if word == "data":
        return _before_value(rest) if sign == ">" else None
    return _in_tag(("tag", word), rest, sign)


def _in_tag(first, rest, sign):
    """Goes on behind the whole name of an element, or one of its attributes; its parent comes next in the rest."""
    if sign == ">":
        return (("nodes", first[1], rest[0][2] + 1),) + rest
    return (("naming", ""), first) + rest if sign == " " else None


def _in_naming(first, rest, sign):
    word = first[1]
    if sign == "=" and word:
        return _spelled("\"/", (("part",),) + rest) if word == "href" else _spelled("\"", (("attribute",),) + rest)
    if sign not in LETTERS:
        return None
    word = word + sign
    if len(word) == NAME_LENGTH:
        return _spelled("=\"", (("attribute",),) + rest)
    # What cannot become the name of an address differs by its length alone.
    return (("naming", word if word == "href"[:len(word)] else "?" * len(word)),) + rest


def _in_attribute(first, rest, sign):
    if sign == "\"":
        return rest
    if sign == "&":
        return _one_of(("amp;", "lt;", "quot;"), (first,) + rest)
    return (first,) + rest if sign != "<" and is_sign(sign) else None


def _in_address(first, rest, sign):
    """Goes on in a part, or in the text of a pair."""
    if sign == "\"":
        return rest
    if sign == "~":
        return _one_of(CODES, (first,) + rest)
    if sign in PLAIN or sign == "/" and first[0] == "part":
        return (first,) + rest
    return (("pair", 0), ("query",)) + rest if sign == ("?" if first[0] == "part" else ";") else None


def _in_pair(first, rest, sign):
    """Goes on in the name of a pair."""
    letters = first[1]
    if sign == "=" and letters > 0:
        return rest
    if sign not in LETTERS:
        return None
    return _spelled("=", rest) if letters + 1 == NAME_LENGTH else (("pair", letters + 1),) + rest


def _in_value(first, rest, sign):
    levels = first[1]
    if sign in WORDS:
        return _spelled(WORDS[sign], rest)
    if sign == "0":
        return rest
    if sign in DIGITS:
        return (("number",),) + rest
    if sign == "-":
        return (("minus",),) + rest
    if sign == "\"":
        return (("string",),) + rest
    if sign not in ("[", "{") or levels == 0:
        return None
    return (("list" if sign == "[" else "record", levels - 1),) + rest


def _in_minus(first, rest, sign):
    return (("number",),) + rest if sign in DIGITS and sign != "0" else None


def _in_number(first, rest, sign):
    return (first,) + rest if sign in DIGITS else step(rest, sign)


def _in_string(first, rest, sign):
    if sign == "\"":
        return rest
    if sign == "\\":
        return _one_of(("\"", "\\", "n", "l"), (first,) + rest)
    return (first,) + rest if sign not in ("<", "\n") and is_sign(sign) else None


def _with_element(many, levels, rest):
    """Returns the place ahead of an element of a list with so many ones, this one included."""
    end = "]" if many == MAX_ELEMENTS else ("more", many, levels)
    return (("value", levels), end) + rest


def _in_list(first, rest, sign):
    """Goes on right behind the bracket of a list."""
    return rest if sign == "]" else step(_with_element(1, first[1], rest), sign)


def _in_more(first, rest, sign):
    """Goes on behind an element of a list that can have more of them."""
    _, many, levels = first
    if sign == ",":
        return _with_element(many + 1, levels, rest)
    return rest if sign == "]" else None


def _in_record(first, rest, sign):
    """Goes on right behind the brace of a record."""
    if sign == "\"":
        return (("key", "", None, first[1]),) + rest
    return rest if sign == "}" else None


def _in_field(first, rest, sign):
    """Goes on behind a field of a record that can have more of them."""
    _, last, levels = first
    if sign == ",":
        return ("\"", ("key", "", last, levels)) + rest
    return rest if sign == "}" else None


def _in_key(first, rest, sign):
    """Goes on in the name of a field; the name before matters as long as this one is the beginning of it."""
    _, word, last, levels = first
    if sign == "\"" and word and last is None:
        return _spelled(":", _with_field(word, levels, rest))
    if sign not in LETTERS:
        return None
    word = word + sign
    if last is not None and word > last[:len(word)]:
        last = None
    if last is not None and word + LAST_NAME[len(word):] <= last:
        return None
    if len(word) == NAME_LENGTH:
        return _spelled("\":", _with_field(word, levels, rest))
    return (("key", word, last, levels),) + rest


def _with_field(name, levels, rest):
    """Returns the place ahead of the value of a field."""
    end = "}" if name == LAST_NAME else ("field", name, levels)
    return (("value", levels), end) + rest


STEPS = {
    "words": _in_words,
    "nodes": _in_nodes,
    "markup": _in_markup,
    "called": _in_called,
    "tag": _in_tag,
    "naming": _in_naming,
    "attribute": _in_attribute,
    "part": _in_address,
    "query": _in_address,
    "pair": _in_pair,
    "value": _in_value,
    "minus": _in_minus,
    "number": _in_number,
    "string": _in_string,
    "list": _in_list,
    "more": _in_more,
    "record": _in_record,
    "field": _in_field,
    "key": _in_key,
}
