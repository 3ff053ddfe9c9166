"""Consoles: a library and a live page that are told what to do by lines of text."""

from shapekeep.errors import InvalidCommand, InvalidText
from shapekeep.escaping import unescape
from shapekeep.library import Library
from shapekeep.names import is_name
from shapekeep.pages import Page
from shapekeep.signs import is_digit

MAX_INDEX_DIGITS = 15
# How many words stand behind the first one; the last one of these may be all that follows, whatever it is.
WORDS = {"define": 2, "replace": 2, "remove": 1, "names": 0, "open": 2, "set": 2, "undo": 0, "text": 0, "evaluated": 0}
WITH_REST = ("define", "replace", "open", "set")
WITH_PAGE = ("set", "undo", "text", "evaluated")


class Console:
    """A library and one live page."""

    def __init__(self):
        self._library = Library()
        self._page = None

    def run(self, command):
        """Runs a command and returns its result."""
        word, given = _words_of(command)
        if word in WITH_PAGE and self._page is None:
            raise InvalidCommand(command)
        if word == "define":
            parameters, body = _definition_in(command, given[1])
            return _contexts(self._library.define(given[0], parameters, body))
        if word == "replace":
            return _contexts(self._library.replace(given[0], given[1]))
        if word == "remove":
            self._library.remove(given[0])
        if word in ("remove", "names"):
            return _listed(self._library.names)
        if word == "open":
            self._page = Page(self._library, given[0], _value_in(command, given[1]))
        if word in ("open", "text"):
            return self._page.text
        if word == "evaluated":
            return _listed([f"{name}:{index}" for name, index in self._page.evaluated])
        if word == "undo":
            return _patches(self._page.undo())
        path = _path_in(command, given[0])
        return _patches(self._page.change(path, _value_in(command, given[1])))


def _words_of(command):
    """Returns the first word of a command, and a list of what belongs to it."""
    if not isinstance(command, str):
        raise InvalidCommand(command)
    word = command.split(" ")[0]
    if word not in WORDS:
        raise InvalidCommand(command)
    many = WORDS[word]
    given = command.split(" ", many)[1:] if word in WITH_REST else command.split(" ")[1:]
    named = given[:1]
    if len(given) != many or "" in named:
        raise InvalidCommand(command)
    return word, given


def _definition_in(command, rest):
    """Returns the parameters and the body in what follows the name of a define."""
    written, sign, body = rest.partition(" ; ")
    if not sign or not written:
        raise InvalidCommand(command)
    return "" if written == "-" else written, body


def _path_in(command, written):
    """Returns the path that is written in a command."""
    parts = []
    for part in written.split("."):
        if is_name(part):
            parts.append(part)
        elif _is_index(part):
            parts.append(int(part))
        else:
            raise InvalidCommand(command)
    return tuple(parts)


def _is_index(part):
    """Tells whether a text is an index."""
    if not 1 <= len(part) <= MAX_INDEX_DIGITS or not all([is_digit(sign) for sign in part]):
        return False
    return part == "0" or part[0] != "0"


def _value_in(command, written):
    """Returns the value that is written in a command."""
    try:
        return unescape("data", written)
    except InvalidText:
        raise InvalidCommand(command) from None


def _contexts(template):
    return _listed([f"{index}:{context}" for index, context in template.contexts])


def _listed(words):
    return " ".join(words) if words else "-"


def _patches(patches):
    return "\n".join([f"{start}-{end}:{text}" for start, end, text in patches]) if patches else "-"
