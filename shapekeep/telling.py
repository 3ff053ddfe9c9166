"""Words that tell two places apart: from just one of the two they go on to a page."""

from shapekeep.limits import MAX_ELEMENTS
from shapekeep.names import MAX_LETTERS
from shapekeep.places import ADDRESS, LAST_LETTER, LITERAL_END, START, follow

# Signs of which some go on from a place of one kind, but not from one of another kind.
PROBES = " /\"01a,"
# What goes on, towards the end of a page, from places of these kinds, whatever else matters there.
WAYS_OUT = {"name": ">", "tag": ">", "attribute": "\"", "part": "\"", "query": "\"", "value": "0", "list": "]",
            "record": "}", "minus": "1", "string": "\""}


def word_between(one, other):
    """Returns a word that leads from just one of two different places to a page."""
    for word in _words_from(one) + _words_from(other):
        ends = [follow(one, word), follow(other, word)]
        for end in ends:
            if end is not None:
                whole = word + way_out(end)
                if (follow(one, whole) == START) != (follow(other, whole) == START):
                    return whole
    return None


def way_out(place):
    """Returns a word that leads from a place to a page."""
    words = []
    while place != START:
        words.append(_next_word(place))
        place = follow(place, words[-1])
    return "".join(words)


def _next_word(place):
    """Returns a word that leads from a place towards the end of a page."""
    kind = place[0]
    if kind in WAYS_OUT:
        return WAYS_OUT[kind]
    if kind == "rest":
        return place[1][0]
    if kind == "text":
        return f"</{place[1][-1]}>"
    if kind == "less":
        return f"/{place[1][-1]}>" if place[1] else "a>"
    if kind in ("naming", "pairing"):
        return "=" if place[2] else "a"
    if kind == "key":
        return _rest_of_key(place)
    # What is left is the end of a number, or the place behind a part of a list or a record.
    return _end_of(place[2][-1]) if place[2] else LITERAL_END


def _rest_of_key(place):
    """Returns what ends the name of a field, or a letter that leads towards its end."""
    _, _, _, word, bound = place
    if bound is not None:
        return LAST_LETTER
    return "\":" if word else "a"


def _end_of(frame):
    """Returns the end of a list or a record that has begun."""
    return "}" if isinstance(frame, str) else "]"


def _words_from(place):
    """Returns a list of words; of those from two different places, one leads to places that can be told apart."""
    words = [""] + list(PROBES) + [LAST_LETTER * letters for letters in range(2, MAX_LETTERS + 1)]
    if place[0] == "rest":
        words.extend(place[1])
        words.extend([place[1][0] + word for word in _words_from(place[2])])
    if place[0] == "naming" and ADDRESS.startswith(place[2]):
        words.append(ADDRESS[len(place[2]):])
    if place[0] == "key" and place[4] is not None:
        words.append(place[4])
    way = ""
    while place != START:
        # A number ends where the next part begins, so its place is one behind a part, too.
        if place[0] in ("behind", "number") and place[2]:
            words.extend([way + word for word in _words_behind(place[2][-1])])
        way = way + _next_word(place)
        place = follow(place, _next_word(place))
    return words


def _words_behind(frame):
    """Returns a list of words that tell how many elements a list has, or which name the last field of a record has."""
    if isinstance(frame, int):
        return [",0" * (MAX_ELEMENTS - frame)]
    return [f",\"{name}\":0" for name in (frame, LAST_LETTER * MAX_LETTERS)]
