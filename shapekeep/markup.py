"""Trees and pages: which values are trees, their pages, and the way back."""

from shapekeep.codes import read_code, read_text, write_attribute, write_code, write_text
from shapekeep.errors import InvalidPage, InvalidTree
from shapekeep.limits import MAX_NESTED
from shapekeep.literals import read_literal, write_literal
from shapekeep.names import is_name
from shapekeep.places import ADDRESS, LITERAL, START, step
from shapekeep.reading import Reader
from shapekeep.sequences import are_apart
from shapekeep.signs import is_text
from shapekeep.types import is_value


def is_tree(thing):
    """Tells whether any value is a tree."""
    return _are_nodes(thing, MAX_NESTED)


def write(tree):
    """Returns the page of a tree."""
    if not is_tree(tree):
        raise InvalidTree(tree)
    return _write_nodes(tree)


def parse(page):
    """Returns the tree of a page."""
    if not isinstance(page, str):
        raise InvalidPage(None)
    place = START
    for index, sign in enumerate(page):
        place = step(place, sign)
        if place is None:
            raise InvalidPage(index)
    if place != START:
        raise InvalidPage(len(page))
    return read_page(page)


def read_page(page):
    """Returns the tree of a text that is known to be a page."""
    return _read_nodes(Reader(page))


def _are_nodes(thing, levels):
    """Tells whether any value is a tree with at most so many elements nested in each other."""
    if not isinstance(thing, tuple):
        return False
    return all([_is_node(node, levels) for node in thing]) and are_apart(thing, "text")


def _is_node(thing, levels):
    if not isinstance(thing, tuple) or not thing or not isinstance(thing[0], str):
        return False
    if thing[0] == "text":
        return len(thing) == 2 and is_text(thing[1]) and thing[1] != ""
    if thing[0] == "data":
        return len(thing) == 2 and is_value(thing[1])
    if thing[0] != "element" or len(thing) != 4:
        return False
    _, name, attributes, nodes = thing
    if levels == 0 or not is_name(name) or name == LITERAL or not isinstance(attributes, tuple):
        return False
    return all([_is_attribute(attribute) for attribute in attributes]) and _are_nodes(nodes, levels - 1)


def _is_attribute(thing):
    if not isinstance(thing, tuple) or len(thing) != 2 or not is_name(thing[0]):
        return False
    return _is_address(thing[1]) if thing[0] == ADDRESS else is_text(thing[1])


def _is_address(thing):
    if not isinstance(thing, tuple) or len(thing) != 2:
        return False
    parts, pairs = thing
    if not isinstance(parts, tuple) or not parts or not isinstance(pairs, tuple):
        return False
    return all([is_text(part) for part in parts]) and all([_is_pair(pair) for pair in pairs])


def _is_pair(thing):
    return isinstance(thing, tuple) and len(thing) == 2 and is_name(thing[0]) and is_text(thing[1])


def _write_nodes(nodes):
    return "".join([_write_node(node) for node in nodes])


def _write_node(node):
    if node[0] == "text":
        return write_text(node[1])
    if node[0] == "data":
        return "<data>" + write_literal(node[1]) + "</data>"
    _, name, attributes, nodes = node
    written = "".join([_write_attribute(called, content) for called, content in attributes])
    return f"<{name}{written}>" + _write_nodes(nodes) + f"</{name}>"


def _write_attribute(name, content):
    written = _write_address(content) if name == ADDRESS else write_attribute(content)
    return f" {name}=\"{written}\""


def _write_address(content):
    parts, pairs = content
    written = "".join(["/" + write_code(part) for part in parts])
    if not pairs:
        return written
    return written + "?" + ";".join([f"{name}=" + write_code(text) for name, text in pairs])


def _read_nodes(reader):
    """Reads the nodes of a tree, or those of an element together with its end."""
    nodes = []
    while not reader.ended() and not reader.skips("</"):
        if reader.skips("<data>"):
            nodes.append(("data", read_literal(reader.until("</data>"))))
        elif reader.skips("<"):
            nodes.append(_read_element(reader))
        else:
            nodes.append(("text", read_text(reader.span("<"))))
    return tuple(nodes)


def _read_element(reader):
    """Reads the rest of an element, of which the first sign has been read."""
    name = reader.letters()
    attributes = []
    while reader.skips(" "):
        attributes.append(_read_attribute(reader))
    reader.needs(">")
    nodes = _read_nodes(reader)
    reader.needs(name + ">")
    return ("element", name, tuple(attributes), nodes)


def _read_attribute(reader):
    name = reader.letters()
    reader.needs("=\"")
    written = reader.until("\"")
    return (name, _read_address(written) if name == ADDRESS else read_text(written))


def _read_address(written):
    path, _, query = written.partition("?")
    parts = tuple([read_code(code) for code in path.split("/")[1:]])
    pairs = [pair.partition("=") for pair in query.split(";")] if query else []
    return (parts, tuple([(name, read_code(code)) for name, _, code in pairs]))
