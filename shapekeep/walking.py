"""The way through the pieces of templates, with the variables that they see."""

from shapekeep.escaping import escape

CALLS = ("use", "wrap")


class Scene:
    """What pieces see: their template, the variables, and the part of the wrap around the template with its scene."""

    def __init__(self, template, variables, part=(), outside=None):
        self.template = template
        self.variables = variables
        self.part = part
        self.outside = outside

    def with_value(self, name, value):
        """Returns the scene in which a variable has this value."""
        return Scene(self.template, {**self.variables, name: value}, self.part, self.outside)

    def above(self, found):
        """Returns the scene in which variables that it has not have the values that were found for them."""
        return Scene(self.template, {**found, **self.variables}, self.part, self.outside)


class Walk:
    """Goes through pieces and keeps what they write."""

    def __init__(self, templates):
        self.templates = templates
        self.texts = []

    def enter(self, scene):
        """Goes through the template of a scene."""
        self.go(scene.template.content, scene)

    def go(self, pieces, scene):
        """Goes through pieces one after the other."""
        for piece in pieces:
            self.visit(piece, scene)

    def visit(self, piece, scene):
        """Goes through a piece and all that is in it."""
        if piece.kind == "literal":
            self.put(piece.written, piece, scene)
            return
        worth = worth_of(piece, scene)
        if piece.kind == "hole":
            self.put(worth, piece, scene)
        for _, pieces, inner in ways_in(piece, scene, worth, self.templates):
            if piece.kind in CALLS:
                self.enter(inner)
            else:
                self.go(pieces, inner)

    def put(self, text, piece, scene):
        """Keeps a text that a piece writes."""
        self.texts.append(text)

    def text_from(self, start):
        """Returns all that has been written since there were so many texts."""
        return "".join(self.texts[start:])


def worth_of(piece, scene):
    """Returns what a tag works out: what a hole writes, the values that a use or a wrap passes, or just a value."""
    if piece.kind == "slot":
        return None
    if piece.kind in CALLS:
        return {name: expression(scene.variables) for name, expression in piece.pairs}
    value = piece.expression(scene.variables)
    return escape(scene.template.context_at[piece.at], value) if piece.kind == "hole" else value


def ways_in(piece, scene, worth, templates):
    """Returns all that a tag goes through: the element of its own loop, if it has one, with pieces and their scene."""
    if piece.kind == "slot":
        return [(None, scene.part, scene.outside)]
    if piece.kind in CALLS:
        template = templates[piece.called]
        part = piece.parts[0] if piece.parts else ()
        return [(None, template.content, Scene(template, worth, part, scene))]
    if piece.kind == "if":
        return [(None, piece.parts[0] if worth else piece.parts[1], scene)]
    if piece.kind == "let":
        return [(None, piece.parts[0], scene.with_value(piece.called, worth))]
    if piece.kind == "for":
        marks = marks_of(worth, scene.template.loop_keys[piece.at])
        return [(mark, piece.parts[0], scene.with_value(piece.called, row)) for mark, row in zip(marks, worth)]
    return []


def marks_of(rows, key):
    """Returns what tells the elements of a list apart: their keys, or their indexes if they have none."""
    return tuple(range(len(rows))) if key is None else tuple([row[key] for row in rows])
