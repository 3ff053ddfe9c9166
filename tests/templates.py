"""Bodies that are grown from a seeded random source, for tests with many of them."""

from shapekeep.library import Library
from shapekeep.types import Type
from tests.descent import SIGNS
from tests.growing import spoilt


class BodyGrower:
    """Grows bodies of any kind, whether they are accepted or not."""

    def __init__(self, random):
        self.random = random

    def name(self):
        return self.random.choice(["a", "b", "c", "in", "slot", "x" * 12])

    def expression(self, levels=3):
        kind = self.random.randint(0, 6 if levels else 3)
        if kind < 2:
            return ".".join(self.name() for _ in range(self.random.choice([1, 1, 2])))
        if kind < 4:
            return self.random.choice(["true", "0", "-12", "\"\"", "\"a b=c, d\"", "\"'*(\\&<\""])
        word, many = self.random.choice([("equal", 2), ("not", 1), ("sum", 3), ("joined", 2), ("or_else", 2),
                ("size", 1)])
        return f"{word}({', '.join(self.expression(levels - 1) for _ in range(many))})"

    def pairs(self):
        names = sorted({self.random.choice(["a", "ab", "b", "self", "true"])
                for _ in range(self.random.choice([0, 0, 1, 2]))})
        return "".join(f" {name}={self.expression()}" for name in names)

    def literal(self):
        signs = self.random.choice(["abc <>/=\"&\n*", SIGNS])
        text = "".join(self.random.choice(signs) for _ in range(self.random.randint(0, 4)))
        return text.replace("{", "{(").replace("}", "{)}").replace("{(", "{(}")

    def body(self, levels=4):
        return "".join(self.tag(levels) for _ in range(self.random.choice([0, 1, 1, 2, 3])))

    def tag(self, levels):
        kind = self.random.randint(0, 9 if levels else 5)
        if kind < 2:
            return self.literal()
        if kind == 2:
            return "{= " + self.expression() + "}"
        if kind == 3:
            return self.random.choice(["{**}", "{* { *}", "{*{if a*}", "{***}"])
        if kind == 4:
            return self.random.choice(["{slot}", "{use a" + self.pairs() + "}"])
        if kind == 5:
            return self.random.choice(["{(}", "{)}"])
        if kind < 8:
            second = self.random.choice(["", "{else}" + self.body(levels - 1)])
            return "{if " + self.expression() + "}" + self.body(levels - 1) + second + "{end}"
        head = self.random.choice(["for a in b.c", f"let {self.name()} = {self.expression()}", "wrap a" + self.pairs()])
        return "{" + head + "}" + self.body(levels - 1) + "{end}"

    def spoilt(self, text):
        return spoilt(self.random, text, ["{", "}", " ", "=", "{end}", "{else}", "{if a}", "{", "*", "(", ",", "a", "\"",
                                          "{slot}", "{for a in b}"])


TYPES = {"t": "text", "n": "number", "f": "flag", "o": "text?", "l": "[text]", "k": "[{id: number, s: text?} by id]",
         "r": "{a: text, b: [number], c: {d: flag, e: number?}}"}
NASTY = ["", "x", "<", "&", "\"", "</p>", "<b>", "&lt;", "\" c=\"d", "/", "?a=b", ";", "~", "\\", "\n", "</data>",
        "\\l", "<data>1</data>", "'", "{= t}", "}",
         "a b", "&amp;quot;", "[1,2]", "null", "=", "0"]


class LibraryGrower:
    """Grows bodies that are accepted, together with data for them."""

    def __init__(self, random, texts=NASTY):
        self.random = random
        self.texts = texts
        self.library = Library()

    def value(self, wanted):
        """Returns a value of a type."""
        if wanted.kind == "text":
            return "".join(self.random.choice(self.texts) for _ in range(self.random.choice([1, 1, 2])))
        if wanted.kind == "number":
            return self.random.choice([0, 1, -1, 10, 123456, self.random.randint(-50, 50)])
        if wanted.kind == "flag":
            return self.random.random() < 0.5
        if wanted.kind == "optional":
            return self.random.choice([None, self.value(wanted.inner)])
        if wanted.kind == "record":
            fields = list(wanted.fields)
            self.random.shuffle(fields)
            return {name: self.value(part) for name, part in fields}
        rows = [self.value(wanted.inner) for _ in range(self.random.choice([0, 1, 2, 3]))]
        return tuple(rows) if wanted.key is None else tuple({row[wanted.key]: row for row in rows}.values())

    def paths(self, scope):
        """Returns all variables with fields, and their types."""
        found = [(name, wanted) for name, wanted in scope.items() if name not in ("true", "false", "self")]
        for path, wanted in found:
            found += [(f"{path}.{name}", part) for name, part in wanted.fields]
        return found

    def written(self, kind, scope, levels=2):
        """Returns an expression of this kind."""
        options = [path for path, wanted in self.paths(scope) if wanted.kind == kind]
        if options and self.random.random() < 0.6:
            return self.random.choice(options)
        if not levels or self.random.random() < 0.3:
            return {"text": "\"x<&'\"", "number": "7", "flag": self.random.choice(["true", "false"])}[kind]
        if kind == "flag":
            return self.choice(scope, levels)
        inner = [self.written(self.random.choice(["text", "number"] if kind == "text" else ["number"]), scope,
                levels - 1)
                 for _ in range(self.random.choice([1, 2]))]
        return f"{'joined' if kind == 'text' else 'sum'}({', '.join(inner)})"

    def choice(self, scope, levels):
        """Returns a function that gives a flag."""
        word = self.random.choice(["equal", "less", "not", "both", "has"])
        optional = [path for path, wanted in self.paths(scope) if wanted.kind == "optional"]
        if word == "has" and optional:
            return f"has({self.random.choice(optional)})"
        if word in ("equal", "less"):
            return f"{word}({self.written('number', scope, levels - 1)}, {self.written('number', scope, levels - 1)})"
        inner = self.written("flag", scope, levels - 1)
        return f"both({inner}, {self.written('flag', scope, levels - 1)})" if word == "both" else f"not({inner})"

    def spread(self, inside, scope, levels):
        """Returns what leads back from a place with a context, with conditions, loops and lets."""
        return "".join(self.spread_one(inside, scope, levels) for _ in range(self.random.choice([0, 1, 2, 2, 3])))

    def spread_one(self, inside, scope, levels):
        kind = self.random.randint(0, 5 if levels else 2)
        rows = [(path, wanted) for path, wanted in self.paths(scope) if wanted.kind in ("list", "keyed")]
        if kind == 0:
            return inside(scope, levels)
        if kind < 3:
            return "{= " + self.written(self.random.choice(["text", "number"]), scope) + "}"
        if kind == 3:
            second = self.random.choice(["", "{else}" + self.spread(inside, scope, levels - 1)])
            return "{if " + self.written("flag", scope) + "}" + self.spread(inside, scope,
                    levels - 1) + second + "{end}"
        name = self.random.choice(["t", "v", "w", "n"])
        if kind == 4 and rows:
            path, wanted = self.random.choice(rows)
            return f"{{for {name} in {path}}}" + self.spread(inside, {**scope, name: wanted.inner},
                    levels - 1) + "{end}"
        text, wanted = self.random.choice(self.paths(scope) + [(self.written("text", scope), Type.read("text"))])
        return f"{{let {name} = {text}}}" + self.spread(inside, {**scope, name: wanted}, levels - 1) + "{end}"

    def in_text(self, scope, levels):
        """Returns something that stands between nodes."""
        kind = self.random.randint(0, 9 if levels else 2)
        if kind == 0:
            return self.random.choice(["a ", "&amp;", "&lt;{**}", "{(}\"'{)}", "\n>"])
        if kind == 1:
            return "<data>" + self.random.choice(["{= " + path + "}" for path,
                    _ in self.paths(scope)] + ["[1,\"\\l\"]"]) + "</data>"
        if kind == 2 or kind > 6:
            return self.call(scope, levels)
        name = self.random.choice(["p", "b", "li", "href", "datas"])
        return f"<{name}{self.attributes(scope, levels)}>" + self.spread(self.in_text, scope, levels - 1) + f"</{name}>"

    def attributes(self, scope, levels):
        found = ""
        for _ in range(self.random.choice([0, 0, 1, 2])):
            if self.random.random() < 0.5:
                found += " id=\"" + self.spread(lambda *_: "&quot;&lt; >", scope, levels) + "\""
            else:
                found += " href=\"/a/" + self.spread(self.literal_code, scope, levels)
                found += self.random.choice(["", "?k=" + self.spread(self.literal_code, scope, levels) + ";l=1"]) + "\""
        return self.random.choice([found, found, "{if " + self.written("flag",
                scope) + "} c=\"d\"" + found + "{else} c=\"\"{end}"])

    def literal_code(self, scope, levels):
        return self.random.choice(["a", "~2f", "-_.", "{* x *}", "~0a{**}"])

    def call(self, scope, levels):
        """Returns a use or a wrap of some template, or a slot."""
        slotted = [name for name in self.library.names if self.library[name].slots]
        name = self.random.choice(["", *self.library.names, *slotted, *slotted])
        if not name:
            return "{slot}"
        template = self.library[name]
        pairs = ""
        for field, wanted in template.parameters.fields if template.parameters else ():
            options = [path for path, found in self.paths(scope) if found == wanted or wanted.kind == "optional"
                    and found == wanted.inner]
            if wanted.kind in ("text", "number", "flag"):
                options.append(self.written(wanted.kind, scope))
            if not options:
                return ""
            pairs += f" {field}={self.random.choice(options)}"
        if template.slots and levels and self.random.random() < 0.7:
            return "{wrap " + name + pairs + "}" + self.spread(self.in_text, scope, levels - 1) + "{end}"
        return "{use " + name + pairs + "}"

    def grow(self, many):
        """Defines templates that use each other, and returns the library."""
        for at in range(many):
            fields = sorted(self.random.sample(sorted(TYPES), self.random.choice([0, 1, 2, 4])))
            parameters = "{" + ", ".join(f"{name}: {TYPES[name]}" for name in fields) + "}" if fields else ""
            scope = {name: Type.read(TYPES[name]) for name in fields}
            body = "".join(self.spread(self.in_text, scope, 3) for _ in range(2))
            self.library.define("abcdefgh"[at], parameters, body)
        return self.library

    def data(self, name):
        """Returns data for a template."""
        parameters = self.library[name].parameters
        return {} if parameters is None else self.value(parameters)
