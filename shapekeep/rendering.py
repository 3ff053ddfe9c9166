"""The texts of templates with data, what wrote each piece of them, and their trees."""

from shapekeep.errors import Unfit
from shapekeep.library import template_in
from shapekeep.markup import parse
from shapekeep.walking import Scene, Walk


def render(library, name, data):
    """Returns the text of a template with data."""
    scene = first_scene(library, name, data)
    walk = Walk(library.snapshot())
    walk.enter(scene)
    return walk.text_from(0)


def render_tree(library, name, data):
    """Returns the tree that a template describes with data."""
    return parse(render(library, name, data))


def origins(library, name, data):
    """Returns triples of a text, a template and an index in its body; the texts together are the text of the page."""
    scene = first_scene(library, name, data)
    tracer = Tracer(library.snapshot())
    tracer.enter(scene)
    return tuple(tracer.texts)


class Tracer(Walk):
    """Keeps with each text where it comes from."""

    def put(self, text, piece, scene):
        """Keeps a text that a piece writes, with the template and the index of the piece."""
        if text:
            self.texts.append((text, scene.template.name, piece.at))


def first_scene(library, name, data):
    """Returns the scene of a template with data, which must be there and fit."""
    template = template_in(library, name)
    check_fit(template.parameters, data)
    return Scene(template, data)


def check_fit(parameters, data):
    """Looks whether data are a value of the type of parameters; there may be none."""
    if parameters is not None:
        trouble = parameters.trouble(data)
    else:
        trouble = None if isinstance(data, dict) and len(data) == 0 else ()
    if trouble is not None:
        raise Unfit(trouble)
