"""Bodies: the nodes that a body consists of, and the way back."""

from shapekeep.errors import InvalidTree
from shapekeep.expressions import Expression, is_expression
from shapekeep.names import is_name, is_variable
from shapekeep.pieces import MAX_BODY_LEVELS, is_read, read_pieces
from shapekeep.sequences import are_apart, are_pairs
from shapekeep.signs import is_text

# How many parts the nodes of each kind have, the word of the kind included.
SIZES = {"literal": 2, "hole": 2, "if": 4, "for": 4, "let": 4, "use": 3, "wrap": 4, "slot": 1}

BRACE_TAGS = {"{": "{(}", "}": "{)}"}


def parse_body(text):
    """Returns the nodes of a body."""
    return _nodes_of(read_pieces(text))


def write_body(nodes):
    """Returns the body of the nodes, without comments."""
    if not _are_nodes(nodes, MAX_BODY_LEVELS):
        raise InvalidTree(nodes)
    return _write_nodes(nodes)


def _nodes_of(pieces):
    return tuple([_node_of(piece) for piece in pieces])


def _node_of(piece):
    if piece.kind == "literal":
        return ("literal", piece.written)
    if piece.kind == "slot":
        return ("slot",)
    parts = tuple([_nodes_of(part) for part in piece.parts])
    if piece.kind in ("use", "wrap"):
        return (piece.kind, piece.called, pairs_of(piece)) + parts
    if piece.called is None:
        return (piece.kind, str(piece.expression)) + parts
    return (piece.kind, piece.called, str(piece.expression)) + parts


def pairs_of(piece):
    """Returns the names that a use or a wrap gives values to, each with the text of its expression."""
    return tuple([(name, str(expression)) for name, expression in piece.pairs])


def _are_nodes(thing, levels):
    """Tells whether any value is what parse_body returns for some body of at most so many levels."""
    if not isinstance(thing, tuple) or levels == 0:
        return False
    return all([_is_node(node, levels) for node in thing]) and are_apart(thing, "literal")


def _is_node(thing, levels):
    if not isinstance(thing, tuple) or not thing or not isinstance(thing[0], str):
        return False
    kind = thing[0]
    if kind not in SIZES or len(thing) != SIZES[kind]:
        return False
    if kind == "literal":
        return is_text(thing[1]) and thing[1] != ""
    if kind == "hole":
        return is_expression(thing[1])
    if kind == "if":
        return is_expression(thing[1]) and _are_nodes(thing[2], levels - 1) and _are_nodes(thing[3], levels - 1)
    if kind == "slot":
        return True
    if kind in ("for", "let"):
        return _is_bound(thing) and _are_nodes(thing[3], levels - 1)
    if not is_name(thing[1]) or not are_pairs(thing[2], is_name, is_expression):
        return False
    return kind == "use" or _are_nodes(thing[3], levels - 1)


def _is_bound(node):
    """Tells whether a for or a let has a variable and a fitting expression."""
    kind, variable, written, _ = node
    if not is_variable(variable) or not is_expression(written):
        return False
    return kind == "let" or is_read(Expression.read(written))


def _write_nodes(nodes):
    return "".join([_write_node(node) for node in nodes])


def _write_node(node):
    kind = node[0]
    if kind == "literal":
        return "".join([BRACE_TAGS.get(sign, sign) for sign in node[1]])
    if kind == "hole":
        return "{= " + node[1] + "}"
    if kind == "slot":
        return "{slot}"
    if kind == "if":
        return _write_choice(node)
    if kind in ("use", "wrap"):
        tag = "{" + " ".join([kind, node[1]] + [f"{name}={written}" for name, written in node[2]]) + "}"
        return tag if kind == "use" else tag + _write_nodes(node[3]) + "{end}"
    _, variable, written, nodes = node
    sign = "in" if kind == "for" else "="
    return "{" + f"{kind} {variable} {sign} {written}" + "}" + _write_nodes(nodes) + "{end}"


def _write_choice(node):
    _, written, first, second = node
    text = "{if " + written + "}" + _write_nodes(first)
    if second:
        text = text + "{else}" + _write_nodes(second)
    return text + "{end}"
