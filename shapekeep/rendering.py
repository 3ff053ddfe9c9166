"""The texts of templates with data, what wrote each piece of them, and their trees."""

from shapekeep.errors import MissingTemplate, NotALibrary, Unfit
from shapekeep.escaping import escape
from shapekeep.library import Library
from shapekeep.markup import parse


def render(library, name, data):
    """Returns the text of a template with data."""
    return "".join([text for text, _, _ in origins(library, name, data)])


def render_tree(library, name, data):
    """Returns the tree that a template describes with data."""
    return parse(render(library, name, data))


def origins(library, name, data):
    """Returns triples of a text, a template and an index in its body; the texts together are the text of the page."""
    if not isinstance(library, Library):
        raise NotALibrary(library)
    if name not in library:
        raise MissingTemplate(name)
    template = library[name]
    trouble = trouble_in(template.parameters, data)
    if trouble is not None:
        raise Unfit(trouble)
    writer = Writer(library)
    writer.write(template.pieces, Scene(template, data))
    return tuple(writer.triples)


def trouble_in(parameters, data):
    """Returns the path at which data are no values of the parameters, or None."""
    if parameters is None:
        return None if isinstance(data, dict) and len(data) == 0 else ()
    return parameters.trouble(data)


class Scene:
    """What pieces see: their template, the variables, and the part of the wrap around the template with its scene."""

    def __init__(self, template, variables, part=(), outside=None):
        self.template = template
        self.variables = variables
        self.part = part
        self.outside = outside

    def with_value(self, name, value):
        """Returns the scene in which a variable has this value."""
        return Scene(self.template, {**self.variables, name: value}, self.part, self.outside)


class Writer:
    """Goes through pieces and keeps what they write."""

    def __init__(self, library):
        self.library = library
        self.triples = []

    def write(self, pieces, scene):
        """Writes the pieces one after the other."""
        for piece in pieces:
            if piece.kind == "literal":
                self.put(piece.text, piece, scene)
            elif piece.kind == "hole":
                value = piece.expression(scene.variables)
                self.put(escape(scene.template.context_at[piece.at], value), piece, scene)
            elif piece.kind == "slot":
                self.write(scene.part, scene.outside)
            else:
                self.write_parts(piece, scene)

    def put(self, text, piece, scene):
        """Keeps a text that a piece writes."""
        if text:
            self.triples.append((text, scene.template.name, piece.at))

    def write_parts(self, piece, scene):
        """Writes what an if, a for, a let, a use or a wrap has in it."""
        if piece.kind in ("use", "wrap"):
            template = self.library[piece.called]
            values = {name: expression(scene.variables) for name, expression in piece.pairs}
            part = piece.parts[0] if piece.parts else ()
            self.write(template.pieces, Scene(template, values, part, scene))
            return
        value = piece.expression(scene.variables)
        if piece.kind == "if":
            self.write(piece.parts[0] if value else piece.parts[1], scene)
        elif piece.kind == "let":
            self.write(piece.parts[0], scene.with_value(piece.called, value))
        else:
            for row in value:
                self.write(piece.parts[0], scene.with_value(piece.called, row))
