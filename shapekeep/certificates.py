"""Certificates: claims about templates, pages and places, with what the checker needs to see that they are true."""

from shapekeep.errors import InvalidText, NotALibrary
from shapekeep.library import Library, template_in
from shapekeep.places import START, follow
from shapekeep.rendering import origins, render_tree
from shapekeep.telling import word_between


def templates_of(library):
    """Returns the templates of a library, each behind all that it uses and wraps."""
    if not isinstance(library, Library):
        raise NotALibrary(library)
    listed = []
    left = library.names
    while left:
        name = min([other for other in left if not [used for used in library[other].uses if used in left]])
        listed.append(_written(library[name]))
        left = tuple([other for other in left if other != name])
    return tuple(listed)


def certify_accepted(library, name):
    """Returns the claim that a template is accepted, with the contexts of its holes."""
    template = template_in(library, name)
    return ("accepted", templates_of(library), name, template.contexts), None


def certify_page(library, name, data):
    """Returns the claim that a template with data has its text, with where this comes from."""
    triples = origins(library, name, data)
    text = "".join([written for written, _, _ in triples])
    return ("page", templates_of(library), name, data, text), triples


def certify_shape(library, name, data):
    """Returns the claim that a template with data describes its tree."""
    tree = render_tree(library, name, data)
    return ("shape", templates_of(library), name, data, tree), None


def certify_patched(page, action):
    """Does an action on a page, and returns the claim that patches make the new page out of the old one."""
    old = page.text
    patches = page.do(action)
    return ("patched", old, page.text), patches


def certify_place(one, other):
    """Returns the claim that two texts lead to the same place, or to other ones, with a word that tells these apart."""
    place = _place_of(one)
    twin = _place_of(other)
    if place == twin:
        return ("same place", one, other), None
    return ("other place", one, other), word_between(place, twin)


def _written(template):
    """Returns the name, the writing of the parameters and the body of a template."""
    parameters = "" if template.parameters is None else str(template.parameters)
    return (template.name, parameters, template.body)


def _place_of(text):
    """Returns the place to which any value leads, which must be a text that leads somewhere."""
    place = follow(START, text) if isinstance(text, str) else None
    if place is None:
        raise InvalidText(text)
    return place
