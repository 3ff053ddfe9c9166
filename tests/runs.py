"""A third way through templates: along the tags of their bodies, with all that is evaluated and where it writes."""

import re

from shapekeep.escaping import context_of, escape
from shapekeep.expressions import Expression
from tests.second import PAIR

TAG = re.compile(r"(?s)\{[^}]*\}|[^{}]")


def value_at(names, values):
    for name in names:
        values = values[name]
    return values


class Evaluation:
    """One evaluation of a run."""

    def __init__(self, key, tag, reads, start, outer):
        self.key = key
        self.tag = tag
        self.reads = reads
        self.start = start
        self.end = None
        self.outer = outer


class Scope:
    """The variables that tags see, with their types, those that come late, and what fills the slots."""

    def __init__(self, values, types, late, filling):
        self.values = values
        self.types = types
        self.late = late
        self.filling = filling

    def bound(self, name, value, wanted):
        return Scope({**self.values, name: value}, {**self.types, name: wanted}, self.late - {name}, self.filling)


class Run:
    """One run of a template: its text, its evaluations, its parts with gaps, and the templates that it reaches."""

    def __init__(self, library, name, data, late=()):
        self.library = library
        self.text = ""
        self.evaluations = []
        self.outer = None
        self.parts = []
        self.hidden = 0
        self.reached = []
        self.template(name, data, frozenset(late), (), None)

    def template(self, name, values, late, path, filling):
        self.reached.append((name, values))
        parameters = self.library[name].parameters
        types = {} if parameters is None else dict(parameters.fields)
        tags = [(found.start(), found[0]) for found in TAG.finditer(self.library[name].body)]
        self.span(name, tags, Scope(values, types, late, filling), path)

    def put(self, text):
        self.text += text
        if not self.hidden and text:
            if self.parts and isinstance(self.parts[-1], str):
                self.parts[-1] += text
            else:
                self.parts.append(text)

    def span(self, name, tags, scope, path):
        at = 0
        while at < len(tags):
            index, tag = tags[at]
            at += 1
            if len(tag) == 1 or tag in ("{(}", "{)}"):
                self.put({"{(}": "{", "{)}": "}"}.get(tag, tag))
            elif not tag.startswith("{*"):
                middle, end = at, at
                if re.match(r"\{(if|for|let|wrap) ", tag):
                    middle, end = self.matching(tags, at)
                first, second = tags[at:middle], tags[middle + 1:end]
                self.tag(name, index, tag[1:-1], (first, second), scope, path)
                at = end + (end > at or middle > at or bool(re.match(r"\{(if|for|let|wrap) ", tag)))

    def matching(self, tags, at):
        """Returns the indexes of the else, or of the end if there is none, and of the end that belong to a tag."""
        depth, middle = 1, None
        while True:
            tag = tags[at][1]
            if re.match(r"\{(if|for|let|wrap) ", tag):
                depth += 1
            elif tag == "{end}":
                depth -= 1
                if not depth:
                    return at if middle is None else middle, at
            elif tag == "{else}" and depth == 1:
                middle = at
            at += 1

    def tag(self, name, index, content, parts, scope, path):
        """Does a tag, as an evaluation if it has expressions."""
        path += ((name, index),)
        word, _, rest = content.partition(" ")
        written = {"=": [rest], "if": [rest], "for": [rest.partition(" in ")[2]], "let": [rest.partition(" = ")[2]],
                "slot": []}.get(word)
        if written is None:
            written = [text for _, text in PAIR.findall(rest[len(rest.partition(" ")[0]):])]
        expressions = [Expression.read(text) for text in written]
        reads = [names for expression in expressions for names in expression.reads]
        if not expressions:
            self.do(name, word, rest, expressions, parts, scope, path)
            return
        values = [value_at(names, scope.values) for names in reads]
        if word == "for":
            key = expressions[0].typed(**scope.types).key
            values = [len(values[0]) if key is None else tuple(row[key] for row in values[0])]
        seen = [escape("data", value) for value in values]
        evaluation = Evaluation(path, (name, index), seen, len(self.text), self.outer)
        self.evaluations.append(evaluation)
        waits = any(names[0] in scope.late for names in reads)
        if waits and not self.hidden:
            self.parts.append(path)
        self.hidden += waits
        self.outer = evaluation
        self.do(name, word, rest, expressions, parts, scope, path)
        self.outer = evaluation.outer
        self.hidden -= waits
        evaluation.end = len(self.text)

    def do(self, name, word, rest, expressions, parts, scope, path):
        if word == "slot":
            if scope.filling is not None:
                scope.filling(path)
        elif word == "=":
            self.put(escape(context_of(self.text), expressions[0](scope.values)))
        elif word == "if":
            self.span(name, parts[0] if expressions[0](scope.values) else parts[1], scope, path)
        elif word == "let":
            bound = scope.bound(rest.partition(" ")[0], expressions[0](scope.values),
                    expressions[0].typed(**scope.types))
            self.span(name, parts[0], bound, path)
        elif word == "for":
            wanted = expressions[0].typed(**scope.types)
            for at, row in enumerate(expressions[0](scope.values)):
                bound = scope.bound(rest.partition(" ")[0], row, wanted.inner)
                self.span(name, parts[0], bound, path + (at if wanted.key is None else (row[wanted.key],),))
        else:
            called, _, _ = rest.partition(" ")
            names = [pair[0] for pair in PAIR.findall(rest[len(called):])]
            passed = {name: expression(scope.values) for name, expression in zip(names, expressions)}
            filling = (lambda inner: self.span(name, parts[0], scope, inner)) if word == "wrap" else None
            self.template(called, passed, frozenset(), path, filling)
