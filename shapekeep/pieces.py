"""Pieces: the nodes of a body, together with the places at which they stand in its text."""

from shapekeep.errors import InvalidBody, InvalidText
from shapekeep.expressions import read_expression
from shapekeep.names import is_name, is_variable
from shapekeep.reading import Reader

MAX_BODY_LEVELS = 8
BRACES = {"(": "{", ")": "}"}


class Piece:
    """A node of a body: literal characters in a row, or a tag with its parts."""

    def __init__(self, kind, called=None, expression=None, pairs=()):
        self.kind = kind
        self.called = called
        self.expression = expression
        self.pairs = pairs
        # All expressions of the tag, and what they read.
        self.expressions = tuple([part for _, part in pairs]) if expression is None else (expression,)
        self.reads = tuple([names for part in self.expressions for names in part.reads])
        # Where the first literal character or the `{` stands, and the `{` of the end.
        self.at = None
        self.end = None
        self.parts = ()
        # The literal characters, and where each of them, or its `{`, stands.
        self.written = ""
        self.spots = ()


class Level:
    """A part that has begun: the tag that it belongs to, and the pieces so far."""

    def __init__(self, tag):
        self.tag = tag
        self.found = []
        self.signs = []
        self.spots = []

    def put(self, sign, spot):
        """Takes a literal character."""
        self.signs.append(sign)
        self.spots.append(spot)

    def push(self, piece):
        """Takes a tag, behind the literal characters in a row so far."""
        self.rest()
        self.found.append(piece)

    def rest(self):
        """Ends the literal characters in a row so far, and returns all pieces."""
        if self.signs:
            piece = Piece("literal")
            piece.at = self.spots[0]
            piece.written = "".join(self.signs)
            piece.spots = tuple(self.spots)
            self.found.append(piece)
            self.signs = []
            self.spots = []
        return tuple(self.found)


class BodyReader:
    """The parts of a body that have begun, the outermost one first."""

    def __init__(self):
        self.levels = [Level(None)]

    def take(self, content, at):
        """Takes the tag that has this content between its braces, and whose first one stands at the index."""
        level = self.levels[-1]
        if content in BRACES:
            level.put(BRACES[content], at)
        elif content == "else":
            self.turn(at)
        elif content == "end":
            self.leave(at)
        elif len(content) < 2 or content[0] != "*" or content[-1] != "*":
            self.enter(read_tag(content, at))

    def enter(self, tag):
        """Takes a tag, and begins its part if it has one."""
        self.levels[-1].push(tag)
        if tag.kind in ("if", "for", "let", "wrap"):
            if len(self.levels) == MAX_BODY_LEVELS:
                raise InvalidBody(tag.at)
            self.levels.append(Level(tag))

    def turn(self, at):
        """Ends the first part of an if, and begins the second one."""
        level = self.levels[-1]
        tag = level.tag
        if tag is None or tag.kind != "if" or tag.parts:
            raise InvalidBody(at)
        tag.parts = (level.rest(),)
        self.levels[-1] = Level(tag)

    def leave(self, at):
        """Ends the part that began last."""
        level = self.levels.pop()
        tag = level.tag
        if tag is None:
            raise InvalidBody(at)
        tag.parts = tag.parts + (level.rest(),)
        if tag.kind == "if" and len(tag.parts) == 1:
            tag.parts = tag.parts + ((),)
        tag.end = at


def read_pieces(body):
    """Returns the pieces of a body."""
    if not isinstance(body, str):
        raise InvalidBody(None)
    reader = BodyReader()
    at = 0
    while at < len(body):
        if body[at] == "}":
            raise InvalidBody(at)
        if body[at] != "{":
            reader.levels[-1].put(body[at], at)
            at += 1
            continue
        end = body.find("}", at)
        if end < 0:
            raise InvalidBody(len(body))
        reader.take(body[at + 1:end], at)
        at = end + 1
    if len(reader.levels) > 1:
        raise InvalidBody(len(body))
    return reader.levels[0].rest()


def read_tag(content, at):
    """Returns the piece of a tag with this content, except for those of literal characters, ends and comments."""
    reader = Reader(content)
    try:
        piece = _read_tag(reader)
        if not reader.ended():
            raise InvalidText(content)
    except InvalidText:
        raise InvalidBody(at) from None
    piece.at = at
    return piece


def _read_tag(reader):
    if reader.skips("= "):
        return Piece("hole", expression=read_expression(reader))
    if reader.skips("if "):
        return Piece("if", expression=read_expression(reader))
    if reader.skips("for "):
        return _read_loop(reader)
    if reader.skips("let "):
        variable = _read_variable(reader)
        reader.needs(" = ")
        return Piece("let", called=variable, expression=read_expression(reader))
    if reader.skips("use "):
        return _read_call(reader, "use")
    if reader.skips("wrap "):
        return _read_call(reader, "wrap")
    reader.needs("slot")
    return Piece("slot")


def _read_loop(reader):
    """Reads the rest of the tag of a for."""
    variable = _read_variable(reader)
    reader.needs(" in ")
    rows = read_expression(reader)
    if not is_read(rows):
        raise InvalidText(reader.written)
    return Piece("for", called=variable, expression=rows)


def all_pieces(pieces):
    """Returns a list of the pieces and of all that stand in their parts, in the order of the text."""
    found = []
    for piece in pieces:
        found.append(piece)
        for part in piece.parts:
            found.extend(all_pieces(part))
    return found


def is_read(expression):
    """Tells whether an expression is a variable, or one with fields."""
    return expression.term.word == "variable"


def _read_variable(reader):
    word = reader.letters()
    if not is_variable(word):
        raise InvalidText(reader.written)
    return word


def _read_call(reader, kind):
    """Reads the rest of the tag of a use or a wrap."""
    called = _read_name(reader)
    pairs = []
    while reader.skips(" "):
        name = _read_name(reader)
        reader.needs("=")
        if pairs and name <= pairs[-1][0]:
            raise InvalidText(reader.written)
        pairs.append((name, read_expression(reader)))
    return Piece(kind, called=called, pairs=tuple(pairs))


def _read_name(reader):
    word = reader.letters()
    if not is_name(word):
        raise InvalidText(reader.written)
    return word
