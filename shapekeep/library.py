"""Libraries: templates that are accepted, and that fit each other."""

from shapekeep.errors import (InUse, InvalidName, InvalidText, MissingTemplate, NameTaken, NotALibrary, Ring, TooDeep,
                              TooManyLevels, TooManyNodes, TooManyTemplates)
from shapekeep.fitting import fit_tags
from shapekeep.following import Course
from shapekeep.limits import MAX_DEPTH, MAX_NESTED, MAX_NODES, MAX_TEMPLATES
from shapekeep.names import is_name, is_variable
from shapekeep.pieces import all_pieces, read_pieces
from shapekeep.planning import Planner
from shapekeep.sizes import size_of
from shapekeep.types import Type


class Template:
    """A body that has been accepted, with its name and its parameters."""

    def __init__(self, name, parameters, body, pieces, course, keys):
        within = all_pieces(pieces)
        self.name = name
        self.parameters = parameters
        self.body = body
        self.contexts = tuple(course.contexts)
        self.uses = tuple(sorted({piece.called for piece in within if piece.kind in ("use", "wrap")}))
        self.slots = len([piece for piece in within if piece.kind == "slot"])
        # What is needed to work with the template.
        self.wraps = tuple(sorted({piece.called for piece in within if piece.kind == "wrap"}))
        self.content = pieces
        self.depths = course.depths
        self.context_at = dict(course.contexts)
        self.loop_keys = keys

    def __eq__(self, other):
        return (isinstance(other, Template) and self.name == other.name and self.parameters == other.parameters
                and self.body == other.body)

    def __repr__(self):
        return f"Template('{self.name}')"


class Library:
    """Templates by their names."""

    def __init__(self):
        self.names = ()
        self.compilations = 0
        self._templates = {}
        self._sizes = {}
        self._plans = {}

    def define(self, name, parameters, body):
        """Adds a template and returns it."""
        if not is_name(name):
            raise InvalidName(name)
        if name in self._templates:
            raise NameTaken(name)
        template = _made(name, _read_parameters(parameters), body, self._templates)
        if len(self._templates) >= MAX_TEMPLATES:
            raise TooManyTemplates(len(self._templates) + 1)
        self._settle(template, [name])
        return template

    def replace(self, name, body):
        """Gives a template another body and returns the new one."""
        parameters = self[name].parameters
        others = self._without(name)
        template = _made(name, parameters, body, others)
        users = self.dependents(name)
        used = _all_used(template.uses, others)
        ring = [other for other in users if other in used]
        if ring:
            raise Ring(min(ring))
        wrappers = [other for other in self.names if name in self._templates[other].wraps]
        if wrappers and template.slots == 0:
            raise InUse(min(wrappers))
        self._settle(template, [name] + _in_order(users, others))
        return template

    def remove(self, name):
        """Takes a template out and returns it."""
        template = self[name]
        users = [other for other in self.names if name in self._templates[other].uses]
        if users:
            raise InUse(min(users))
        self._keep(self._without(name), self._sizes, self._plans)
        return template

    def dependents(self, name):
        """Returns the names of the templates that use or wrap this one, directly or by others."""
        template = self[name]
        return tuple([other for other in self.names
                      if template.name in _all_used(self._templates[other].uses, self._templates)])

    def plan(self, name):
        """Returns the plan of a template."""
        return self._plans[name]

    def snapshot(self):
        """Returns a dict of the templates, which stays as it is whatever becomes of the library."""
        return dict(self._templates)

    def _without(self, name):
        """Returns a dict of the templates except this one."""
        return {other: self._templates[other] for other in self._templates if other != name}

    def _settle(self, template, changed):
        """Takes a template in; it and those that depend on it are changed, each behind all that it uses."""
        templates = {**self._templates, template.name: template}
        sizes = dict(self._sizes)
        for name in changed:
            sizes[name] = size_of(templates[name].content, templates[name].depths, sizes)
        _check_sizes([sizes[name] for name in changed])
        plans = dict(self._plans)
        for name in changed:
            plans[name] = Planner(templates, plans).plan(templates[name], templates[name].content, ())
        self.compilations += len(changed)
        self._keep(templates, sizes, plans)

    def _keep(self, templates, sizes, plans):
        """Holds just these templates from now on, with what is known of them."""
        self.names = tuple(sorted(templates))
        self._templates = templates
        self._sizes = {name: sizes[name] for name in templates}
        self._plans = {name: plans[name] for name in templates}

    def __contains__(self, x):
        return isinstance(x, str) and x in self._templates

    def __getitem__(self, at):
        if not is_name(at):
            raise InvalidName(at)
        if at not in self._templates:
            raise MissingTemplate(at)
        return self._templates[at]

    def __iter__(self):
        raise TypeError("a library is not walked over")

    def __len__(self):
        return len(self._templates)

    def __eq__(self, other):
        return isinstance(other, Library) and self._templates == other._templates

    def __repr__(self):
        return f"Library({len(self._templates)} templates)"


def template_in(library, name):
    """Returns the template of this name; both arguments may be any value."""
    if not isinstance(library, Library):
        raise NotALibrary(library)
    if name not in library:
        raise MissingTemplate(name)
    return library[name]


def _read_parameters(parameters):
    """Returns the record type of the parameters, or None if there are none."""
    if isinstance(parameters, str) and parameters == "":
        return None
    found = Type.read(parameters)
    if found.kind != "record" or [name for name, _ in found.fields if not is_variable(name)]:
        raise InvalidText(parameters)
    return found


def _made(name, parameters, body, templates):
    """Returns the template with this body, which may use these templates."""
    pieces = read_pieces(body)
    kinds, keys = fit_tags(pieces, parameters, templates)
    course = Course(kinds)
    course.whole(pieces, len(body))
    return Template(name, parameters, body, pieces, course, keys)


def _all_used(uses, templates):
    """Returns a list of the names of the templates that are used, directly or by others."""
    found = []
    waiting = list(uses)
    while waiting:
        name = waiting.pop()
        if name not in found and name in templates:
            found.append(name)
            waiting.extend(templates[name].uses)
    return found


def _in_order(names, templates):
    """Returns the names in an order in which each of these templates comes behind those that it uses."""
    found = []
    waiting = list(names)
    while waiting:
        ready = [name for name in waiting if not [used for used in templates[name].uses if used in waiting]]
        found.extend(ready)
        waiting = [name for name in waiting if name not in ready]
    return found


def _check_sizes(sizes):
    """Looks whether nothing becomes larger than it may be."""
    levels = max([size.levels for size in sizes])
    if levels > MAX_NESTED:
        raise TooManyLevels(levels)
    depth = max([size.depth for size in sizes])
    if depth > MAX_DEPTH:
        raise TooDeep(depth)
    nodes = max([size.nodes for size in sizes])
    if nodes > MAX_NODES:
        raise TooManyNodes(nodes)
