"""What the checker knows of pages: what templates write, and the texts of trees."""

from shapekeep.limits import MAX_NESTED
from shapekeep.proof_signs import CODED, CODES, PLAIN, Doubt, demand, is_name, is_text, is_tuple
from shapekeep.proof_terms import value_of_term
from shapekeep.proof_values import has_type, is_value, literal_of


class Scene:
    """A template with its variables, and the part that fills its slots, with the scene of this part."""

    def __init__(self, template, variables, filling=(), outer=None):
        self.template = template
        self.variables = variables
        self.filling = filling
        self.outer = outer


def written(known, name, data):
    """Returns a list of triples of a text, a template and an index: all that a template writes with data."""
    demand(isinstance(name, str) and name in known)
    template = known[name]
    demand(has_type(data, ("record", template.fields)))
    triples = []
    _write(template.nodes, Scene(template, data), known, triples)
    return triples


def _write(nodes, scene, known, triples):
    """Adds what nodes write."""
    for node in nodes:
        if node.kind == "literal":
            triples.append(("".join([sign for sign, _ in node.signs]), scene.template.name, node.at))
        elif node.kind == "hole":
            text = escaped(scene.template.contexts[node.at], value_of_term(node.term, scene.variables))
            if text:
                triples.append((text, scene.template.name, node.at))
        elif node.kind == "slot":
            _write(scene.filling, scene.outer, known, triples)
        else:
            for part, inner in _parts_of(node, scene, known):
                _write(part, inner, known, triples)


def _parts_of(node, scene, known):
    """Returns a list of the nodes that a tag reaches, with their scenes."""
    if node.kind in ("use", "wrap"):
        template = known[node.name]
        values = {name: value_of_term(term, scene.variables) for name, term in node.pairs}
        return [(template.nodes, Scene(template, values, node.parts[0] if node.parts else (), scene))]
    value = value_of_term(node.term, scene.variables)
    if node.kind == "if":
        return [(node.parts[0] if value else node.parts[1], scene)]
    rows = value if node.kind == "for" else (value,)
    return [(node.parts[0], _with_variable(scene, node.name, row)) for row in rows]


def _with_variable(scene, name, value):
    """Returns the scene with one more variable."""
    return Scene(scene.template, {**scene.variables, name: value}, scene.filling, scene.outer)


def escaped(context, value):
    """Returns the escape of a value in a context."""
    if context == "data":
        return literal_of(value)
    text = str(value)
    if context == "text":
        return _with_codes(text, "&<")
    return _with_codes(text, "&<\"") if context == "attribute" else address_code(text)


def _with_codes(text, signs):
    """Returns a text with other writings for some signs."""
    writings = {"&": "&amp;", "<": "&lt;", "\"": "&quot;"}
    return "".join([writings[sign] if sign in signs else sign for sign in text])


def address_code(text):
    """Returns the code of a text in an address."""
    return "".join([sign if sign in PLAIN else "~" + CODES[CODED.index(sign)] for sign in text])


def page_of(tree, levels=MAX_NESTED):
    """Returns the text of any value, which must be a tree with at most so many elements in each other."""
    demand(isinstance(tree, tuple))
    texts = []
    last = ""
    for node in tree:
        demand(isinstance(node, tuple) and len(node) > 1 and isinstance(node[0], str))
        demand(node[0] != "text" or last != "text")
        last = node[0]
        texts.append(_page_of_node(node, levels))
    return "".join(texts)


def _page_of_node(node, levels):
    """Returns the text of what must be a node."""
    if node[0] == "text":
        demand(len(node) == 2 and is_text(node[1]) and node[1] != "")
        return escaped("text", node[1])
    if node[0] == "data":
        demand(len(node) == 2 and is_value(node[1]))
        return "<data>" + literal_of(node[1]) + "</data>"
    if node[0] != "element":
        raise Doubt()
    demand(len(node) == 4 and levels > 0)
    _, name, attributes, nodes = node
    demand(is_name(name) and name != "data" and isinstance(attributes, tuple))
    head = "".join([_attribute_text(attribute) for attribute in attributes])
    return f"<{name}{head}>" + page_of(nodes, levels - 1) + f"</{name}>"


def _attribute_text(attribute):
    """Returns the text of what must be an attribute."""
    demand(is_tuple(attribute, 2))
    name, content = attribute
    demand(is_name(name))
    if name == "href":
        return " href=\"" + _address_text(content) + "\""
    demand(is_text(content))
    return f" {name}=\"" + escaped("attribute", content) + "\""


def _address_text(content):
    """Returns the text of what must be the parts and the pairs of an address."""
    demand(is_tuple(content, 2))
    parts, pairs = content
    demand(isinstance(parts, tuple) and len(parts) > 0 and isinstance(pairs, tuple))
    demand(all([is_text(part) for part in parts]))
    text = "".join(["/" + address_code(part) for part in parts])
    written_pairs = []
    for pair in pairs:
        demand(is_tuple(pair, 2) and is_name(pair[0]) and is_text(pair[1]))
        written_pairs.append(f"{pair[0]}=" + address_code(pair[1]))
    return text + "?" + ";".join(written_pairs) if written_pairs else text
