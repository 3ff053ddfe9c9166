"""What the checker knows of libraries: which templates they take, and why they do not take others."""

from shapekeep.limits import MAX_DEPTH, MAX_NESTED, MAX_NODES, MAX_TEMPLATES
from shapekeep.proof_bodies import all_nodes, nodes_of
from shapekeep.proof_places import ROOT, context_at, follow, open_elements, step
from shapekeep.proof_signs import Doubt, demand, is_name, is_tuple, is_variable
from shapekeep.proof_terms import FLAG, NUMBER, TEXT, type_of_term
from shapekeep.proof_values import read_type

CALLS = ("use", "wrap", "slot")


class Lost(ValueError):
    """A body is not accepted: it goes astray at a position, for a reason."""

    def __init__(self, position, reason):
        self.position = position
        self.reason = reason


class Known:
    """A template that is accepted."""

    def __init__(self, name, fields, nodes, path):
        self.name = name
        self.fields = fields
        self.nodes = nodes
        self.has_slot = len([node for node in all_nodes(nodes) if node.kind == "slot"]) > 0
        # By the indexes of nodes: the contexts of holes, and how many elements are open at most.
        self.contexts = path.contexts
        self.depths = path.depths


def known_templates(templates):
    """Returns a dict of the templates, which a library must take one after the other."""
    demand(isinstance(templates, tuple))
    known = {}
    for triple in templates:
        demand(is_tuple(triple, 3))
        name, parameters, body = triple
        try:
            found = judged(name, parameters, body, known)
        except Lost:
            raise Doubt() from None
        demand(len(known) < MAX_TEMPLATES)
        Measure(known).go_through(found, found.nodes, 0, 0, None)
        known[name] = found
    return known


def judged(name, parameters, body, known):
    """Returns the template that is accepted behind others, whatever its size."""
    demand(is_name(name) and name not in known)
    fields = _fields_of(parameters)
    nodes = nodes_of(body)
    types = {}
    _fit_nodes(nodes, dict(fields), known, types)
    path = Path(types)
    if path.behind(nodes, ROOT) != ROOT:
        raise Lost(len(body), "end")
    return Known(name, fields, nodes, path)


def _fields_of(parameters):
    """Returns the names and types of parameters, for their writing."""
    demand(isinstance(parameters, str))
    if not parameters:
        return ()
    found = read_type(parameters)
    demand(found[0] == "record" and all([is_variable(name) for name, _ in found[1]]))
    return found[1]


def _fit_nodes(nodes, scope, known, types):
    """Looks whether the tags fit the types of the variables; notes the types of the holes by their indexes."""
    for node in nodes:
        inner = scope
        if node.kind in ("use", "wrap"):
            _fit_call(node, scope, known)
        elif node.term is not None:
            found = type_of_term(node.term, scope)
            if node.kind == "hole":
                types[node.at] = found
            elif node.kind == "if":
                demand(found == FLAG)
            elif node.kind == "let":
                inner = {**scope, node.name: found}
            else:
                demand(found[0] == "list")
                inner = {**scope, node.name: found[1]}
        for part in node.parts:
            _fit_nodes(part, inner, known, types)


def _fit_call(node, scope, known):
    """Looks whether a use or a wrap passes what its template wants."""
    demand(node.name in known)
    template = known[node.name]
    demand(node.kind == "use" or template.has_slot)
    demand([name for name, _ in node.pairs] == [name for name, _ in template.fields])
    for (_, term), (_, wanted) in zip(node.pairs, template.fields):
        found = type_of_term(term, scope)
        demand(wanted in (found, ("optional", found)))


class Path:
    """The way along a body through places, with what is seen there."""

    def __init__(self, types):
        self.types = types
        self.contexts = {}
        self.depths = {}

    def behind(self, nodes, place):
        """Returns the place behind nodes."""
        for node in nodes:
            if node.kind == "literal":
                place = self.behind_signs(node, place)
            elif node.kind == "hole":
                place = self.behind_hole(node, place)
            elif node.kind in CALLS:
                self.look_at_call(node, place)
            else:
                place = self.behind_tag(node, place)
        return place

    def behind_signs(self, node, place):
        """Returns the place behind literal characters."""
        deepest = 0
        for sign, at in node.signs:
            place = step(place, sign)
            if place is None:
                raise Lost(at, "markup")
            deepest = max(deepest, open_elements(place))
        self.depths[node.at] = deepest
        return place

    def behind_hole(self, node, place):
        """Returns the place behind a hole."""
        context = context_at(place)
        if context == "none":
            raise Lost(node.at, "hole")
        self.contexts[node.at] = context
        if context == "data":
            return follow(place, "null")
        if self.types[node.at] not in (TEXT, NUMBER):
            raise Lost(node.at, "kind")
        return place

    def behind_tag(self, node, place):
        """Returns the place behind an if, a for or a let."""
        found = [self.behind(part, place) for part in node.parts]
        if node.kind == "if" and found[0] != found[1]:
            raise Lost(node.end, "branches")
        if node.kind == "for" and found[0] != place:
            raise Lost(node.end, "loop")
        return found[0]

    def look_at_call(self, node, place):
        """Looks whether a use, a wrap or a slot stands at a text place, and whether its part leads back."""
        if context_at(place) != "text":
            raise Lost(node.at, "use")
        self.depths[node.at] = open_elements(place)
        if node.kind == "wrap" and self.behind(node.parts[0], ROOT) != ROOT:
            raise Lost(node.end, "loop")


class Filling:
    """What stands in the place of slots: the part of a wrap, in its template, with what fills the slots there."""

    def __init__(self, template, nodes, outer):
        self.template = template
        self.nodes = nodes
        self.outer = outer


class Measure:
    """Goes through all that a template comes to, and counts the nodes of its plan."""

    def __init__(self, known):
        self.known = known
        self.many = 0

    def go_through(self, template, nodes, opened, depth, filling):
        """Counts nodes of a template, with so many open elements and nodes around them."""
        for node in nodes:
            inside = opened + template.depths.get(node.at, 0)
            demand(inside <= MAX_NESTED)
            if node.kind == "slot":
                if filling is not None:
                    self.take_node(depth + 1)
                    self.go_through(filling.template, filling.nodes, inside, depth + 1, filling.outer)
                continue
            self.take_node(depth + 1)
            if node.kind in CALLS:
                inner = self.known[node.name]
                part = Filling(template, node.parts[0], filling) if node.kind == "wrap" else None
                self.go_through(inner, inner.nodes, inside, depth + 1, part)
            else:
                for part in node.parts:
                    self.go_through(template, part, opened, depth + 1, filling)

    def take_node(self, depth):
        """Counts a node that is one of so many within one another."""
        self.many += 1
        demand(self.many <= MAX_NODES and depth <= MAX_DEPTH)
