"""Plans: what templates come to, and the passes that make them simpler."""

from shapekeep.dropping import drop_unread
from shapekeep.errors import InvalidPass
from shapekeep.folding import fold_node
from shapekeep.forms import check_plan, inner_plans, with_plans
from shapekeep.library import template_in

PASSES = ("drop", "flat", "fold", "join")


def plan_of(library, name):
    """Returns the plan of a template."""
    template = template_in(library, name)
    return library.plan(template.name)


def count_nodes(plan):
    """Returns the number of nodes of a plan."""
    check_plan(plan)
    return _count(plan)


def fold(plan):
    """Returns the plan in which what has no variables is worked out."""
    check_plan(plan)
    return _rebuilt(plan, fold_node)


def join(plan):
    """Returns the plan in which writes in a row are one."""
    check_plan(plan)
    return _joined(plan)


def flat(plan):
    """Returns the plan without nodes around nothing, or around what does not need them."""
    check_plan(plan)
    return _rebuilt(plan, _flat_node)


def drop(plan):
    """Returns the plan without variables that are not read."""
    check_plan(plan)
    return drop_unread(plan)


def optimize(plan, *passes):
    """Returns the plan behind these passes."""
    check_plan(plan)
    for index, name in enumerate(passes):
        if not isinstance(name, str) or name not in PASSES:
            raise InvalidPass(index)
    for name in passes:
        do_pass = FUNCTIONS[name]
        plan = do_pass(plan)
    return plan


FUNCTIONS = {"drop": drop, "flat": flat, "fold": fold, "join": join}


def _count(plan):
    many = len(plan)
    for node in plan:
        for part in inner_plans(node):
            many += _count(part)
    return many


def _rebuilt(plan, change):
    """Returns the plan in which each node, from the innermost ones outwards, is changed to nodes."""
    nodes = []
    for node in plan:
        inner = [_rebuilt(part, change) for part in inner_plans(node)]
        nodes.extend(change(with_plans(node, inner)))
    return tuple(nodes)


def _joined(plan):
    nodes = []
    for node in plan:
        if node[0] != "write":
            nodes.append(with_plans(node, [_joined(part) for part in inner_plans(node)]))
        elif nodes and nodes[-1][0] == "write":
            nodes[-1] = ("write", nodes[-1][1] + node[1])
        elif node[1]:
            nodes.append(node)
    return tuple(nodes)


def _flat_node(node):
    """Returns the nodes that a node becomes, in which all plans are flat."""
    inner = inner_plans(node)
    if node[0] == "if" and inner[0] == inner[1]:
        return inner[0]
    if node[0] in ("for", "let", "scope", "outer") and not inner[0]:
        return ()
    if node[0] == "scope" and len(inner[0]) == 1 and inner[0][0][0] == "outer":
        return inner[0][0][1]
    return (node,)
