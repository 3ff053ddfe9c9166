"""Nodes of plans in which what has no variables is worked out."""

from shapekeep.escaping import escape
from shapekeep.expressions import Expression
from shapekeep.forms import inner_plans
from shapekeep.terms import call_term, plain_term, reads_of, value_of


def fold_node(node):
    """Returns the nodes that a node becomes, in which all plans are folded."""
    kind = node[0]
    if kind in ("write", "outer"):
        return (node,)
    if kind == "scope":
        _, pairs, plan = node
        return (("scope", tuple([(name, _folded(written)) for name, written in pairs]), plan),)
    if kind in ("for", "let"):
        _, name, written, plan = node
        return ((kind, name, _folded(written), plan),)
    expression = Expression.read(node[2] if kind == "show" else node[1])
    if expression.variables:
        return _fold_open(node)
    value = expression({})
    if kind == "show":
        return (("write", escape(node[1], value)),)
    first, second = inner_plans(node)
    return first if value else second


def _fold_open(node):
    """Returns the nodes that a show or an if becomes, of which the expression has variables."""
    if node[0] == "show":
        return (("show", node[1], _folded(node[2])),)
    return (("if", _folded(node[1])) + inner_plans(node),)


def _folded(written):
    """Returns the writing of an expression in which the largest parts without variables are worked out."""
    return _fold_term(Expression.read(written).term).writing


def _fold_term(term):
    if not reads_of(term):
        plain = plain_term(value_of(term, {}))
        if plain is not None:
            return plain
    if not term.parts:
        return term
    return call_term(term.word, tuple([_fold_term(part) for part in term.parts]))
