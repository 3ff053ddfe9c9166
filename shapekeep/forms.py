"""The form of plans, and their nodes with the plans in them."""

from shapekeep.errors import InvalidPlan
from shapekeep.escaping import is_context
from shapekeep.expressions import is_expression
from shapekeep.limits import MAX_DEPTH
from shapekeep.names import is_variable
from shapekeep.sequences import are_pairs
from shapekeep.signs import is_text

# How many parts the nodes of each kind have, and how many plans are the last ones of them.
SIZES = {"write": 2, "show": 3, "if": 4, "for": 4, "let": 4, "scope": 3, "outer": 2}
INNER = {"write": 0, "show": 0, "if": 2, "for": 1, "let": 1, "scope": 1, "outer": 1}


def check_plan(thing):
    """Looks whether any value has the form of a plan."""
    if not _are_nodes(thing, MAX_DEPTH, 0):
        raise InvalidPlan(thing)


def inner_plans(node):
    """Returns the plans in a node."""
    return node[SIZES[node[0]] - INNER[node[0]]:]


def with_plans(node, plans):
    """Returns the node with other plans in it."""
    return node[:len(node) - len(plans)] + tuple(plans)


def _are_nodes(thing, depth, scopes):
    """Tells whether any value is a plan of at most this depth, with so many scopes around it."""
    if not isinstance(thing, tuple):
        return False
    for node in thing:
        if not _is_node(node, depth, scopes):
            return False
    return True


def _is_node(thing, depth, scopes):
    if depth == 0 or not isinstance(thing, tuple) or not thing or not isinstance(thing[0], str):
        return False
    if thing[0] not in SIZES or len(thing) != SIZES[thing[0]] or not _is_head(thing):
        return False
    if thing[0] == "scope":
        scopes = scopes + 1
    elif thing[0] == "outer":
        scopes = scopes - 1
    if scopes < 0:
        return False
    for plan in inner_plans(thing):
        if not _are_nodes(plan, depth - 1, scopes):
            return False
    return True


def _is_head(node):
    """Tells whether the parts of a node ahead of the plans in it are as they must be."""
    kind = node[0]
    if kind == "write":
        return is_text(node[1])
    if kind == "show":
        return is_context(node[1]) and is_expression(node[2])
    if kind == "if":
        return is_expression(node[1])
    if kind == "scope":
        return are_pairs(node[1], is_variable, is_expression)
    return kind == "outer" or is_variable(node[1]) and is_expression(node[2])
