"""Plans without variables that are not read.

What is read in a plan is kept as pairs of a number and a variable, the keys of a dict: of how many scopes around the
plan the variable is one of those outside.
"""

from shapekeep.expressions import Expression
from shapekeep.forms import inner_plans, with_plans


def drop_unread(plan):
    """Returns the plan without lets and pairs of which the variable is not read."""
    dropped, _ = _dropped(plan)
    return dropped


def _dropped(plan):
    """Returns a plan without what is not read, and what is read in it."""
    nodes = []
    reads = []
    for node in plan:
        inner = [_dropped(part) for part in inner_plans(node)]
        kept, found = _drop_node(with_plans(node, [part for part, _ in inner]), [read for _, read in inner])
        nodes.extend(kept)
        reads.append(found)
    return tuple(nodes), _united(reads)


def _drop_node(node, inner):
    """Returns the nodes that a node becomes, for what is read in its plans, and what is read in these nodes."""
    kind = node[0]
    if kind == "write":
        return (node,), {}
    if kind == "show":
        return (node,), _reads_in(node[2])
    if kind == "if":
        return (node,), _united([_reads_in(node[1]), inner[0], inner[1]])
    if kind == "outer":
        return (node,), {(scopes + 1, name): True for scopes, name in inner[0]}
    if kind == "scope":
        return _drop_pairs(node, inner[0])
    _, variable, written, plan = node
    if kind == "let" and (0, variable) not in inner[0]:
        return plan, inner[0]
    return (node,), _united([_reads_in(written), {key: True for key in inner[0] if key != (0, variable)}])


def _drop_pairs(scope, inner):
    """Returns a scope without the pairs that are not read in its plan, and what is read in it."""
    _, pairs, plan = scope
    kept = tuple([(name, written) for name, written in pairs if (0, name) in inner])
    outside = {(scopes - 1, name): True for scopes, name in inner if scopes > 0}
    return (("scope", kept, plan),), _united([outside] + [_reads_in(written) for _, written in kept])


def _united(readings):
    """Returns all that is read in one of several plans or expressions."""
    return {key: True for reads in readings for key in reads}


def _reads_in(written):
    """Returns what an expression reads."""
    return {(0, name): True for name in Expression.read(written).variables}
