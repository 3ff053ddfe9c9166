"""What the checker knows of bodies."""

from shapekeep.proof_signs import Doubt, Scan, demand, is_name
from shapekeep.proof_terms import term_at

MAX_BODY_LEVEL = 8
WITH_PART = ("if", "for", "let", "wrap")
# Tags of literal characters, and those that end parts.
BRACES = {"{(}": "{", "{)}": "}"}
ENDS = ("{end}", "{else}")


class Node:
    """Literal characters in a row, or a tag."""

    def __init__(self, kind, at):
        self.kind = kind
        # Where it begins, and for tags with parts, where the tag of the end stands.
        self.at = at
        self.end = None
        # The literal characters, each with the index at which it stands.
        self.signs = []
        self.name = None
        self.term = None
        self.pairs = []
        self.parts = []


class BodyScan:
    """The characters and tags of a body, each with its index, and how many of them have been read."""

    def __init__(self, body):
        self.marks = _marks_of(body)
        self.done = 0

    def take_part(self, level):
        """Reads nodes up to a tag that ends a part, or up to the end of the body."""
        demand(level <= MAX_BODY_LEVEL)
        nodes = []
        while self.done < len(self.marks) and self.marks[self.done][1] not in ENDS:
            at, mark = self.marks[self.done]
            self.done += 1
            if len(mark) == 1 or mark in BRACES:
                if not nodes or nodes[-1].kind != "literal":
                    nodes.append(Node("literal", at))
                nodes[-1].signs.append((BRACES.get(mark, mark), at))
            elif not _is_comment(mark):
                nodes.append(self.take_tag(at, mark, level))
        return nodes

    def take_tag(self, at, mark, level):
        """Reads the parts of a tag, if it has some."""
        node = _tag_of(at, Scan(mark[1:-1]))
        if node.kind in WITH_PART:
            node.parts.append(self.take_part(level + 1))
            if node.kind == "if":
                node.parts.append(self.take_part(level + 1) if self.has_else() else [])
            demand(self.done < len(self.marks) and self.marks[self.done][1] == "{end}")
            node.end = self.marks[self.done][0]
            self.done += 1
        return node

    def has_else(self):
        """Tells whether the tag that comes next is an else, and goes behind it if so."""
        found = self.done < len(self.marks) and self.marks[self.done][1] == "{else}"
        if found:
            self.done += 1
        return found


def nodes_of(body):
    """Returns a list of the nodes of a body."""
    demand(isinstance(body, str))
    scan = BodyScan(body)
    nodes = scan.take_part(1)
    demand(scan.done == len(scan.marks))
    return nodes


def all_nodes(nodes):
    """Returns a list of nodes and of all that stand in their parts."""
    found = []
    for node in nodes:
        found.append(node)
        for part in node.parts:
            found.extend(all_nodes(part))
    return found


def _marks_of(body):
    """Returns a list of the characters and tags of a body, each behind its index."""
    marks = []
    at = 0
    while at < len(body):
        mark = body[at]
        demand(mark != "}")
        if mark == "{":
            end = body.find("}", at)
            demand(end >= 0)
            mark = body[at:end + 1]
        marks.append((at, mark))
        at += len(mark)
    return marks


def _is_comment(mark):
    """Tells whether a tag is a comment."""
    return len(mark) >= 4 and mark[1] == "*" and mark[-2] == "*"


def _tag_of(at, scan):
    """Returns the node of a tag that is between the braces in the scan."""
    if scan.has("= "):
        node = Node("hole", at)
        node.term = term_at(scan)
    else:
        node = _named_tag(at, scan)
    scan.finish()
    return node


def _named_tag(at, scan):
    """Returns the node of a tag that begins with a word."""
    node = Node(scan.take_name(), at)
    if node.kind == "slot":
        return node
    scan.want(" ")
    if node.kind == "if":
        node.term = term_at(scan)
    elif node.kind == "for":
        node.name = scan.take_variable()
        scan.want(" in ")
        node.term = term_at(scan)
        demand(node.term[0] == "variable")
    elif node.kind == "let":
        node.name = scan.take_variable()
        scan.want(" = ")
        node.term = term_at(scan)
    elif node.kind in ("use", "wrap"):
        node.name = scan.take_name()
        _add_pairs(node, scan)
    else:
        raise Doubt()
    return node


def _add_pairs(node, scan):
    """Reads the names and values that a use or a wrap passes."""
    while scan.has(" "):
        name = scan.take_name()
        demand(is_name(name) and (not node.pairs or node.pairs[-1][0] < name))
        scan.want("=")
        node.pairs.append((name, term_at(scan)))
