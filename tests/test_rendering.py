"""Points 2, 4 and 17: the texts of templates with data, their trees, and where each character comes from."""

import random
import re
import unittest

from shapekeep.bodies import parse_body
from shapekeep.errors import MissingTemplate, NotALibrary, Unfit
from shapekeep.escaping import escape
from shapekeep.library import Library
from shapekeep.markup import is_tree, parse, write
from shapekeep.rendering import origins, render, render_tree
from shapekeep.types import Type
from tests.descent import SIGNS
from tests.second import Rendering
from tests.support import raised, unchanged
from tests.templates import LibraryGrower
from tests.test_library import NO_NAMES, library_of


class Odd:
    """An object of no kind that the program knows."""


# Templates (name, body, parameters), data for the last one, and its text.
PAGES = [
    ([("a", "")], {}, ""), ([("a", "x{* y *}{(}z{)}")], {}, "x{z}"),
    ([("a", "{= 1}{= -2}{= \"<\"}{= joined(1, \"&\")}")], {}, "1-2&lt;1&amp;"),
    ([("a", "<p id=\"{= t}\">{= t}</p>", "{t: text}")], {"t": "<\"&>"}, "<p id=\"&lt;&quot;&amp;>\">&lt;\"&amp;></p>"),
    ([("a", "<a href=\"/x/{= t}/{= n}?k={= t};l={= n}\"></a>", "{n: number, t: text}")], {"t": "a/b?;~ ", "n": -5},
    "<a href=\"/x/a~2fb~3f~3b~7e~20/-5?k=a~2fb~3f~3b~7e~20;l=-5\"></a>"),
    ([("a", "<data>{= r}</data><data>{= r.x}</data>", "{r: {x: [flag?], y: text}}")],
    {"r": {"y": "</data>", "x": (True, None)}},
    "<data>{\"x\":[true,null],\"y\":\"\\l/data>\"}</data><data>[true,null]</data>"),
    ([("a", "{if f}yes{else}no{end}{if f}!{end}{if not(f)}?{end}", "{f: flag}")], {"f": True}, "yes!"),
    ([("a", "{if f}yes{else}no{end}{if f}!{end}{if not(f)}?{end}", "{f: flag}")], {"f": False}, "no?"),
    ([("a", "{for x in l}[{= x}]{end}", "{l: [text]}")], {"l": ("a", "", "<")}, "[a][][&lt;]"),
    ([("a", "<{for x in l}{end}p>{for x in l}a{end}</p>", "{l: [flag]}")], {"l": ()}, "<p></p>"),
    ([("a", "{for x in k}{= x.id}:{for y in x.l}{= y}{= x.id};{end}{end}", "{k: [{id: number, l: [text]} by id]}")],
    {"k": ({"id": 2, "l": ("a", "b")}, {"id": 1, "l": ()})}, "2:a2;b2;1:"),
    # Variables that hide others.
    ([("a", "{= t}{let t = \"y\"}{= t}{let t = joined(t, t)}{= t}{end}{= t}{end}{= t}", "{t: text}")], {"t": "x"},
    "xyyyyx"), ([("a", "{for t in l}{= t}{for t in l}{= t}{end}{= t}{end}{= t}", "{l: [number], t: text}")],
    {"t": "x", "l": (1, 2)}, "11212122x"),
    ([("a", "{let x = t}{for t in l}{= x}{= t}{end}{end}", "{l: [number], t: text}")], {"t": "x", "l": (1, 2)}, "x1x2"),
    ([("a", "{let x = l}{for l in x}{= l}{end}{end}", "{l: [number]}")], {"l": (1, 2)}, "12"),
    # Uses, wraps and slots.
    ([("b", "<b>{= t}</b>{slot}", "{t: text}"), ("a", "{use b t=t}{use b t=\"y\"}{let t = \"z\"}{use b t=t}{end}",
    "{t: text}")], {"t": "x"}, "<b>x</b><b>y</b><b>z</b>"),
    ([("b", "<b>{slot}</b>"), ("a", "{wrap b}x{end}{wrap b}{end}{use b}")], {}, "<b>x</b><b></b><b></b>"),
    ([("b", "{slot}-{slot}"), ("a", "{wrap b}{= n}{end}", "{n: number}")], {"n": 7}, "7-7"),
    ([("b", "<b>x</b>{slot}")], {}, "<b>x</b>"), ([("b", "{slot}"), ("a", "<p>{slot}{wrap b}{slot}{end}</p>")], {},
    "<p></p>"),
    # The part of a wrap sees the variables of the place where it is written.
    ([("b", "{let t = \"inner\"}{= t}{slot}{end}{= n}", "{n: number}"),
    ("a", "{wrap b n=5}{= t}{let n = \"n\"}{= n}{end}{end}", "{t: text}")], {"t": "outer"}, "inneroutern5"),
    ([("b", "{for x in l}{slot}{= x};{end}", "{l: [text]}"), ("a", "{for x in l}{wrap b l=m}{= x}{end}{end}",
    "{l: [text], m: [text]}")], {"l": ("a", "b"), "m": ("1", "2", "3")}, "a1;a2;a3;b1;b2;b3;"),
    ([("c", "({slot})"), ("b", "[{wrap c}{slot}{= t}{end}]", "{t: text}"),
    ("a", "{wrap b t=\"q\"}{= t}{wrap c}{= t}{end}{end}{wrap c}{wrap b t=t}{slot}!{end}{end}", "{t: text}")],
    {"t": "x"}, "[(x(x)q)]([(!x)])"),
    ([("c", "<i>{slot}</i>"), ("b", "{wrap c}{wrap c}{slot}{end}{slot}{end}"),
    ("a", "{wrap b}{let y = t}{= y}{end}{end}", "{t: text}")], {"t": "x"}, "<i><i>x</i>x</i>"),
    ([("b", "{if f}{slot}{else}no{end}", "{f: flag}"), ("a", "{wrap b f=true}a{end}{wrap b f=f}b{end}", "{f: flag}")],
    {"f": False}, "ano"),
    ([("b", "{let x = 1}{let y = 2}{slot}{= sum(x, y)}{end}{end}"), ("a", "{let x = 5}{wrap b}{= x}{end}{= x}{end}")],
    {}, "535"),
    ([("d", "{slot}d{slot}"), ("c", "{wrap d}{slot}c{end}"), ("b", "{wrap c}{slot}b{end}"), ("a", "{wrap b}{= t}{end}",
    "{t: text}")], {"t": "x"}, "xbcdxbc"),
    # Parameters of types T? take values of T.
    ([("b", "{if has(o)}{= or_else(o, \"\")}{else}none{end};", "{o: text?}"),
    ("a", "{use b o=t}{use b o=o}{use b o=\"x\"}", "{o: text?, t: text}")], {"t": "T", "o": None}, "T;none;x;"),
    # Branches to the same place by different texts.
    ([("a", "<p{if f} a=\"{= t}\"{else} href=\"/{= t}\"{end}>&{if f}amp{else}lt{end};</p>", "{f: flag, t: text}")],
    {"f": True, "t": "\""}, "<p a=\"&quot;\">&amp;</p>"),
    ([("a", "<data>[{if f}1{else}22{end},3]</data>", "{f: flag}")], {"f": False}, "<data>[22,3]</data>"),
]


def define_all(templates):
    return library_of(*templates), templates[-1][0]


class RenderTest(unittest.TestCase):
    def test_pages(self):
        for templates, data, text in PAGES:
            library, name = define_all(templates)
            before = repr(data)
            self.assertEqual(render(library, name, data), text)
            self.assertEqual(render(data=dict(reversed(list(data.items()))), name=name, library=library), text)
            self.assertEqual(repr(render_tree(library, name, data)), repr(parse(text)))
            self.assertEqual(repr(render_tree(data=data, name=name, library=library)), repr(parse(text)))
            self.assertEqual("".join(piece for piece, _, _ in origins(data=data, name=name, library=library)), text)
            self.assertEqual(Rendering(library).template(name, data), text)
            self.assertEqual((repr(data), render(library, name, data)), (before, text))

    def test_each_sign_in_each_context(self):
        library = library_of(("a", "{= t}<p a=\"{= t}\" href=\"/{= t}?b={= t}\"><data>{= t}</data></p>", "{t: text}"))
        for sign in SIGNS:
            for text in (sign, "a" + sign * 3, sign + "b"):
                self.assertEqual(render(library, "a", {"t": text}),
                        escape("text", text) + "<p a=\"" + escape("attribute", text) + "\" href=\"/" + escape("part",
                        text) + "?b=" + escape("query", text)
                                 + "\"><data>" + escape("data", text) + "</data></p>")
                self.assertEqual(render_tree(library, "a", {"t": text}),
                        (("text", text), ("element", "p", (("a", text), ("href", ((text,), (("b", text),)))),
                        (("data", text),))))

    def test_trees_are_those_that_are_described(self):
        library = library_of(("a",
                "<p a=\"x{= t}\">{if f}<b>{= t}</b>{end}{for x in l}<i>{= x}</i>{end}<data>{= l}</data></p>{= t}",
                "{f: flag, l: [text], t: text}"))
        for text in ("", "<i></i>", "</p>", "\" b=\"c", "&lt;", "\\"):
            for many in range(3):
                inner = tuple(("element", "i", (), (("text", text),) * (text != "")) for _ in range(many))
                tree = render_tree(library, "a", {"f": True, "l": (text,) * many, "t": text})
                self.assertEqual(tree,
                        (("element", "p", (("a", "x" + text),), (("element", "b", (), (("text", text),) * (text != "")),
                        ) + inner + (("data", (text,) * many),)),)
                                 + (("text", text),) * (text != ""))
                self.assertTrue(is_tree(tree))

    def test_replaced_templates(self):
        library = library_of(("b", "x{slot}"), ("a", "{use b}{wrap b}y{end}"))
        self.assertEqual(render(library, "a", {}), "xxy")
        library.replace("b", "<p>{slot}</p>")
        self.assertEqual(render(library, "a", {}), "<p></p><p>y</p>")
        library.replace("a", "{wrap b}{wrap b}z{end}{end}")
        self.assertEqual((render(library, "a", {}), origins(library, "a", {})[2]), ("<p><p>z</p></p>", ("z", "a", 16)))

    def test_grown_libraries(self):
        for seed in range(60):
            grower = LibraryGrower(random.Random(seed))
            library = grower.grow(5)
            for name in library.names:
                for _ in range(3):
                    data = grower.data(name)
                    text = unchanged(self, data, lambda data: render(library, name, data))
                    self.assertEqual(text, Rendering(library).template(name, data))
                    self.assertEqual(write(render_tree(library, name, data)), text)
                    self.check_origins(library, origins(library, name, data), text)

    def check_origins(self, library, triples, text):
        """Looks whether each triple is a literal node, or one character of a hole, of the template that it names."""
        self.assertEqual("".join(piece for piece, _, _ in triples), text)
        for piece, name, position in triples:
            self.assertNotEqual(piece, "")
            body = library[name].body
            if body.startswith("{= ", position):
                self.assertIn(position, [at for at, _ in library[name].contexts])
            else:
                row = re.match(r"(?s)(?:\{\(\}|\{\)\}|\{\*[^}]*\*\}|[^{}])*", body[position:])[0]
                self.assertEqual(parse_body(row), (("literal", piece),))
                self.assertTrue(body[position] != "{" or body.startswith(("{(}", "{)}"), position))
                ahead = re.sub(r"(?s)(\{\*[^}]*\*\})+$", "", body[:position])
                self.assertTrue(not ahead or ahead.endswith("}") and not ahead.endswith(("{(}", "{)}")))

    def test_data_never_change_the_shape(self):
        for seed in range(40):
            grower = LibraryGrower(random.Random(seed), ["x"])
            library = grower.grow(5)
            for name in library.names:
                data = grower.data(name)
                shape = self.shape(render_tree(library, name, data))
                for seed_of_texts in range(3):
                    other = LibraryGrower(random.Random(seed_of_texts))
                    wanted = library[name].parameters
                    spoilt = {} if wanted is None else self.with_texts(data, wanted, other)
                    self.assertEqual(self.shape(render_tree(library, name, spoilt)), shape)

    def with_texts(self, value, wanted, grower):
        """Puts nasty texts in the place of those in a value."""
        if wanted.kind == "optional":
            return None if value is None else self.with_texts(value, wanted.inner, grower)
        if wanted.kind == "record":
            return {name: self.with_texts(value[name], part, grower) for name, part in wanted.fields}
        if wanted.kind in ("list", "keyed"):
            return tuple(self.with_texts(part, wanted.inner, grower) for part in value)
        return (grower.value(wanted) or "<") if wanted.kind == "text" else value

    def shape(self, nodes):
        """Returns a tree without what texts and values are."""
        found = []
        for node in nodes:
            if node[0] == "element":
                attributes = [(name, [len(part) if name == "href" else 0 for part in content][:2]) if name == "href"
                        else name for name, content in node[2]]
                found.append((node[1], attributes, self.shape(node[3])))
            elif node[0] == "data":
                found.append("data")
        return found


class OriginsTest(unittest.TestCase):
    def check(self, templates, data, *triples):
        library, name = define_all(templates)
        self.assertEqual(origins(library, name, data), triples)
        self.assertEqual({type(triple) for triple in origins(library, name, data)} | {tuple}, {tuple})

    def test_origins(self):
        self.check([("a", "")], {})
        self.check([("a", "{* x *}")], {})
        self.check([("a", "x{* y *}z{= 1}{**}w")], {}, ("xz", "a", 0), ("1", "a", 9), ("w", "a", 18))
        self.check([("a", "{**}{(}x{)}")], {}, ("{x}", "a", 4))
        self.check([("a", "{= t}{= u}{= t}", "{t: text, u: text}")], {"t": "", "u": "<"}, ("&lt;", "a", 5))
        self.check([("a", "<p>{if f}by {= n}{end}</p>", "{f: flag, n: text}")], {"f": True, "n": "A<B"},
                ("<p>", "a", 0), ("by ", "a", 9), ("A&lt;B", "a", 12 + 0), ("</p>", "a", 22))
        self.check([("a", "{for x in l}<b>{= x}</b>{end}", "{l: [text]}")], {"l": ("1", "", "2")}, ("<b>", "a", 12),
                ("1", "a", 15), ("</b>", "a", 20), ("<b>", "a", 12), ("</b>", "a", 20), ("<b>", "a", 12),
                ("2", "a", 15),
                   ("</b>", "a", 20))
        self.check([("b", "<b>{slot}{= t}</b>", "{t: text}"), ("a", "{wrap b t=\"q\"}x{= n}{end}{use b t=\"r\"}",
                "{n: number}")], {"n": 0}, ("<b>", "b", 0), ("x", "a", 14), ("0", "a", 15), ("q", "b", 9),
                ("</b>", "b", 14),
                   ("<b>", "b", 0), ("r", "b", 9), ("</b>", "b", 14))
        self.check([("c", "({slot})"), ("b", "{wrap c}{slot}b{end}"), ("a", "{wrap b}a{end}")], {}, ("(", "c", 0),
                ("a", "a", 8), ("b", "b", 14), (")", "c", 7))
        self.check([("a", "<data>{= r}</data>", "{r: {x: text}}")], {"r": {"x": ""}}, ("<data>", "a", 0),
                ("{\"x\":\"\"}", "a", 6), ("</data>", "a", 11))
        self.check([("a", "a{let x = 1}b{end}c{if true}{else}d{end}e")], {}, ("a", "a", 0), ("b", "a", 12),
                ("c", "a", 18), ("e", "a", 40))


class ErrorsTest(unittest.TestCase):
    FUNCTIONS = (render, render_tree, origins)

    def test_no_libraries(self):
        for thing in (None, 1, True, "a", (), {}, {"a": 1}, [], Odd(), Library, library_of(("a", ""))["a"]):
            for function in self.FUNCTIONS:
                self.assertIs(raised(NotALibrary, function, thing, "none", 5).value, thing)

    def test_templates_that_are_missing(self):
        library = library_of(("a", ""))
        for thing in NO_NAMES + ["b", "aa"]:
            for function in self.FUNCTIONS:
                self.assertIs(raised(MissingTemplate, function, library, thing, 5).called, thing)

    def test_data_that_do_not_fit(self):
        library = library_of(("a", "", "{a: text, b: [{id: number, t: text?} by id]}"))
        wanted = Type.read("{a: text, b: [{id: number, t: text?} by id]}")
        for data, path in ((None, ()), ("", ()), ((), ()), ([], ()), ({}, ("a",)), ({"a": ""}, ("b",)),
                ({"a": 1, "b": ()}, ("a",)), ({"a": "", "b": [], }, ("b",)), ({"b": (), "a": "", "c": 1}, ()),
                ({"b": 1, "a": 1}, ("a",)),
                           ({"a": "", "b": ({"id": 1, "t": None}, {"id": 1, "t": None})}, ("b", 1)),
                           ({"a": "", "b": ({"id": True, "t": None},)}, ("b", 0, "id")),
                           ({"a": "", "b": ({"id": 1, "t": 5},)}, ("b", 0, "t")), (Odd(), ()),
                           ({"a": "", "b": ({"id": 1},)}, ("b", 0, "t")), ({"a": True, "b": ()}, ("a",)), ({1: 2}, ())):
            self.assertEqual(wanted.trouble(data), path)
            for function in self.FUNCTIONS:
                self.assertEqual(raised(Unfit, function, library, "a", data).path, path)

    def test_data_of_templates_without_parameters(self):
        library = library_of(("a", "x"))
        for thing in (None, (), [], "", 0, False, {"a": 1}, {1: 1}, Odd(), set()):
            for function in self.FUNCTIONS:
                self.assertEqual(raised(Unfit, function, library, "a", thing).path, ())
        self.assertEqual((render(library, "a", {}), render_tree(library, "a", {}), origins(library, "a", {})),
                ("x", (("text", "x"),), (("x", "a", 0),)))


if __name__ == "__main__":
    unittest.main()
