"""A second reader of bodies and a second renderer, written otherwise than the program's."""

import re

from shapekeep.errors import InvalidText
from shapekeep.escaping import context_of, escape
from shapekeep.expressions import Expression

NAME = "[a-z]{1,12}"
VARIABLE = f"(?!(?:true|false|self)(?![a-z])){NAME}"
CALL = re.compile(rf"(use|wrap) ({NAME})((?: {NAME}=(?:\"[^\"]*\"|, |[^\" ])+)*)")
PAIR = re.compile(rf" ({NAME})=((?:\"[^\"]*\"|, |[^\" ])+)")


class Bad(Exception):
    """A body that is none, with the index that tells where."""


def is_written(text):
    try:
        return str(Expression.read(text)) == text
    except InvalidText:
        return False


def head_of(content):
    """Returns what the node of a tag begins with, or None."""
    if content == "slot":
        return ("slot",)
    if content.startswith("= "):
        return ("hole", content[2:]) if is_written(content[2:]) else None
    if content.startswith("if "):
        return ("if", content[3:]) if is_written(content[3:]) else None
    if match := re.fullmatch(rf"for ({VARIABLE}) in ({VARIABLE}(?:\.{NAME})*)", content):
        return ("for", match[1], match[2])
    if (match := re.fullmatch(rf"let ({VARIABLE}) = (.*)", content, re.DOTALL)) and is_written(match[2]):
        return ("let", match[1], match[2])
    if match := CALL.fullmatch(content):
        pairs = tuple(PAIR.findall(match[3]))
        names = [name for name, _ in pairs]
        if names == sorted(set(names)) and all(is_written(text) for _, text in pairs):
            return (match[1], match[2], pairs)
    return None


class BodyDescent:
    """The tokens of a body, and how far they have been read."""

    def __init__(self, text):
        self.text = text
        self.tokens = [(token.start(), token[0]) for token in re.finditer(r"(?s)\{[^}]*\}|.", text)]
        self.at = 0

    def part(self, level, words):
        """Reads the nodes of a part up to one of the tags that may end it; returns them with it and its index."""
        nodes = []
        while self.at < len(self.tokens):
            index, token = self.tokens[self.at]
            self.at += 1
            if token in words:
                return tuple(nodes), token, index
            literal = {"{(}": "{", "{)}": "}"}.get(token, token)
            if len(literal) == 1 and (len(token) == 3 or token not in "{}"):
                if nodes and nodes[-1][0] == "literal":
                    nodes[-1] = ("literal", nodes[-1][1] + literal)
                else:
                    nodes.append(("literal", literal))
            elif token == "{":
                raise Bad(len(self.text))
            elif not re.fullmatch(r"(?s)\{\*.*\*\}", token):
                nodes.append(self.tag(index, token, level))
        if words:
            raise Bad(len(self.text))
        return tuple(nodes), None, len(self.text)

    def tag(self, index, token, level):
        head = head_of(token[1:-1]) if len(token) > 1 else None
        if head is None:
            raise Bad(index)
        if head[0] in ("hole", "slot", "use"):
            return head
        if level == 8:
            raise Bad(index)
        first, word, _ = self.part(level + 1, ("{else}", "{end}") if head[0] == "if" else ("{end}",))
        if head[0] != "if":
            return (*head, first)
        return (*head, first, self.part(level + 1, ("{end}",))[0] if word == "{else}" else ())


def read_body(text):
    """Returns the nodes of a body and None, or None and the index at which it is none."""
    try:
        return BodyDescent(text).part(1, ())[0], None
    except Bad as bad:
        return None, bad.args[0]


class Rendering:
    """Renders bodies by their nodes, and finds the context of each hole by what has been written so far."""

    def __init__(self, library):
        self.library = library
        self.text = ""

    def template(self, name, values, filling=None):
        self.nodes(read_body(self.library[name].body)[0], values, filling)
        return self.text

    def nodes(self, nodes, values, filling):
        for node in nodes:
            self.node(node, values, filling)

    def node(self, node, values, filling):
        kind = node[0]
        if kind == "literal":
            self.text += node[1]
        elif kind == "hole":
            self.text += escape(context_of(self.text), Expression.read(node[1])(values))
        elif kind == "if":
            self.nodes(node[2] if Expression.read(node[1])(values) else node[3], values, filling)
        elif kind == "for":
            for row in Expression.read(node[2])(values):
                self.nodes(node[3], {**values, node[1]: row}, filling)
        elif kind == "let":
            self.nodes(node[3], {**values, node[1]: Expression.read(node[2])(values)}, filling)
        elif kind == "slot":
            if filling is not None:
                filling()
        else:
            passed = {name: Expression.read(text)(values) for name, text in node[2]}
            self.template(node[1], passed, (lambda: self.nodes(node[3], values, filling)) if kind == "wrap" else None)


def run_plan(plan, values, outside=None):
    """Returns what a plan writes; outside is a function that writes a plan with the variables around the scope."""
    text = ""
    for node in plan:
        if node[0] == "write":
            text += node[1]
        elif node[0] == "show":
            text += escape(node[1], Expression.read(node[2])(values))
        elif node[0] == "if":
            text += run_plan(node[2] if Expression.read(node[1])(values) else node[3], values, outside)
        elif node[0] == "for":
            for row in Expression.read(node[2])(values):
                text += run_plan(node[3], {**values, node[1]: row}, outside)
        elif node[0] == "let":
            text += run_plan(node[3], {**values, node[1]: Expression.read(node[2])(values)}, outside)
        elif node[0] == "scope":
            passed = {name: Expression.read(written)(values) for name, written in node[1]}
            text += run_plan(node[2], passed, lambda inner: run_plan(inner, values, outside))
        else:
            text += outside(node[1])
    return text


class Expansion:
    """Writes out all that templates come to: their plans, and the elements that are open in them."""

    def __init__(self, bodies):
        self.nodes = {name: read_body(body)[0] for name, body in bodies.items()}
        self.most = 0

    def plan(self, nodes, filling=()):
        """Returns the plan of nodes, in which every context is the one of texts."""
        found = ()
        for node in nodes:
            kind = node[0]
            if kind == "literal":
                found += (("write", node[1]),)
            elif kind == "hole":
                found += (("show", "text", node[1]),)
            elif kind == "slot":
                found += filling
            elif kind == "use":
                found += (("scope", node[2], self.plan(self.nodes[node[1]])),)
            elif kind == "wrap":
                outer = ("outer", self.plan(node[3], filling))
                found += (("scope", node[2], self.plan(self.nodes[node[1]], (outer,))),)
            elif kind == "if":
                found += (("if", node[1], self.plan(node[2], filling), self.plan(node[3], filling)),)
            else:
                found += ((kind, node[1], node[2], self.plan(node[3], filling)),)
        return found

    def levels(self, nodes, depth=0, filling=None):
        """Returns how many elements are open behind nodes; what is open at most is kept."""
        for node in nodes:
            kind = node[0]
            if kind == "literal":
                for close, data in re.findall(r"<(/?)(data>)?", node[1]):
                    depth += 0 if data else -1 if close else 1
                    self.most = max(self.most, depth)
            elif kind == "slot" and filling:
                filling(depth)
            elif kind == "use":
                self.levels(self.nodes[node[1]], depth)
            elif kind == "wrap":
                self.levels(self.nodes[node[1]], depth, lambda inner, part=node[3]: self.levels(part, inner, filling))
            elif kind not in ("hole", "slot"):
                ends = [self.levels(part, depth, filling) for part in node[2 + (kind != "if"):]]
                depth = ends[0]
        return depth


def depth_of(plan):
    """Returns how many nodes of a plan stand within one another."""
    return max((1 + max(map(depth_of, plans_in(node)), default=0) for node in plan), default=0)


def nodes_of(plan):
    """Returns how many nodes a plan has."""
    return sum(1 + sum(map(nodes_of, plans_in(node))) for node in plan)


def plans_in(node):
    """Returns the plans in a node of a plan."""
    return {"write": (), "show": (), "if": node[2:], "for": node[3:], "let": node[3:], "scope": node[2:],
            "outer": node[1:]}[node[0]]
