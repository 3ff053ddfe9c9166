"""Points 3 to 6, 14 and 16: libraries, their templates, and what changes them."""

import unittest

from shapekeep.errors import InUse, InvalidName, InvalidTag, MissingTemplate, NameTaken, Ring
from shapekeep.library import Library, Template
from shapekeep.types import Type
from tests.support import raised

TWELVE = "abcdefghijkl"


class Odd:
    """An object of no kind that the program knows."""


class Same:
    """An object that says of itself that it equals anything."""

    def __eq__(self, other):
        return True


NO_NAMES = [None, True, 1, 0, "", "A", "aB", "a1", "a_b", "a b", "a.b", " a", "a ", TWELVE + "m", "é", b"a", ("a",),
        ["a"], {"a": "a"}, {"a"}, (), Odd(), Same(), str]


def library_of(*templates):
    """Returns a library with these templates: their names, bodies, and parameters if there are some."""
    library = Library()
    for name, body, *parameters in templates:
        library.define(name, *(parameters or [""]), body)
    return library


def shown(library):
    """Returns all that a library tells of itself."""
    return (library.names, len(library), library.compilations, repr(library),
            [(one.name, one.parameters, one.body, one.contexts, one.uses, one.slots) for one in [library[name]
            for name in library.names]],
            [library.dependents(name) for name in library.names])


class DefineTest(unittest.TestCase):
    def test_a_template(self):
        library = Library()
        body = "<p id=\"{= a}\">{slot}{if b}{slot}{end}</p>"
        found = library.define("box", "{a: text, b: flag}", body)
        self.assertIs(type(found), Template)
        self.assertEqual((found.name, found.body, found.contexts, found.uses, found.slots),
                ("box", body, ((7, "attribute"),), (), 2))
        self.assertEqual((found.parameters, type(found.parameters)), (Type.read("{a: text, b: flag}"), Type))
        self.assertEqual(repr(found), "Template('box')")
        self.assertTrue(found)
        self.assertEqual(library["box"], found)
        other = Library().define(body=body, parameters="{a: text, b: flag}", name="box")
        self.assertEqual(other, found)

    def test_templates_without_parameters(self):
        found = Library().define("a", "", "")
        self.assertEqual((found.name, found.body, found.parameters, found.contexts, found.uses, found.slots),
                ("a", "", None, (), (), 0))

    def test_contexts(self):
        cases = [
            ("{= a}", ((0, "text"),)), ("x{= a}y{= b}", ((1, "text"), (7, "text"))), ("<p>{= a}</p>", ((3, "text"),)),
            ("{**}{= a}{= a}", ((4, "text"), (9, "text"))),
            ("<p a=\"{= a}{= b}x\"></p>", ((6, "attribute"), (11, "attribute"))), ("<a href=\"/{= a}\"></a>",
            ((10, "part"),)),
            ("<a href=\"/x/{= a}/{= b}?k={= a};l=x{= b}\"></a>", ((12, "part"), (18, "part"), (26, "query"),
            (35, "query"))),
            ("<data>{= c}</data>", ((6, "data"),)), ("<data>{= a}</data>{= a}", ((6, "data"), (18, "text"))),
            ("<data>1</data><p><data>{= b}</data></p>", ((23, "data"),)),
            ("{if d}{= a}{else}<p>{= b}</p>{end}{= b}", ((6, "text"), (20, "text"), (34, "text"))),
            ("{for x in e}{= x}{end}", ((12, "text"),)),
            ("{let x = a}{= x}{let y = x}{= y}{end}{end}", ((11, "text"), (27, "text"))),
            ("<p{if d} a=\"{= a}\"{else} b=\"\"{end}>{= b}</p>", ((12, "attribute"), (35, "text"))),
            ("<p a=\"{if d}{= a}{end}{for x in e}{= x}{end}\"></p>", ((12, "attribute"), (34, "attribute"))),
            ("<data>{if d}{= c}{else}0{end}</data>", ((12, "data"),)), ("<data>{let x = c}{= x}{end}</data>",
            ((17, "data"),)),
            ("<a href=\"/{for x in e}{= x}/{end}{= a}\"></a>", ((22, "part"), (33, "part"))),
        ]
        for body, contexts in cases:
            found = Library().define("t", "{a: text, b: number, c: {x: [flag?]}, d: flag, e: [text]}", body)
            self.assertEqual(found.contexts, contexts, body)
            self.assertEqual((type(found.contexts), {type(pair) for pair in found.contexts}), (tuple, {tuple}))

    def test_holes_of_all_types_in_data(self):
        for wanted in ("text", "number", "flag", "text?", "[flag]", "{x: text?}", "[{x: number} by x]", "[[number?]]?"):
            self.assertEqual(Library().define("t", f"{{a: {wanted}}}", "<data>{= a}</data>").contexts, ((6, "data"),))
        for written in ("\"x\"", "5", "true", "equal(1, 2)", "joined(1)"):
            self.assertEqual(Library().define("t", "", f"<data>{{= {written}}}</data>").contexts, ((6, "data"),))

    def test_uses_and_slots(self):
        library = library_of(("a", "x"), ("c", "{slot}"), ("b", "{if true}{slot}{end}{slot}"))
        found = library.define("d", "",
                "{use c}{if true}{wrap b}{slot}{use a}{end}{else}{wrap c}{wrap b}{slot}{end}{end}{end}{use a}{slot}")
        self.assertEqual((found.uses, found.slots), (("a", "b", "c"), 3))
        self.assertEqual([library[name].slots for name in "abc"], [0, 2, 1])
        self.assertEqual(library.define("e", "", "{* {slot *}{(}use a{)}").uses, ())

    def test_parameters_of_all_kinds(self):
        for parameters in ("{a: text}", "{a: text?, b: [number]}", "{text: text}", "{a: {self: flag, true: text}}",
                "{a: [{false: text} by false]}", f"{{{TWELVE}: text}}",
                           "{a: {b: {c: {d: {e: {f: text}}}}}}"):
            self.assertEqual(str(Library().define("t", parameters, "").parameters), parameters)

    def test_names_of_templates(self):
        library = Library()
        for name in ("a", TWELVE, "true", "self", "use", "slot", "end", "href", "data"):
            self.assertEqual(library.define(name, "", "x").name, name)
            self.assertIn(name, library)
            library.define("u" + name[:5], "", f"{{use {name}}}")
            self.assertEqual(library.dependents(name), ("u" + name[:5],))

    def test_what_a_use_may_pass(self):
        library = library_of(("t", "{= a}{if has(b)}{= or_else(b, 0)}{end}", "{a: text, b: number?}"),
                ("l", "{for r in a}{= r.x}{end}", "{a: [{x: text} by x]}"))
        for at, body in enumerate(("{use t a=\"x\" b=1}", "{use t a=p b=q}", "{use t a=p b=sum(1, size(r))}",
                "{use t a=joined(1) b=s}", "{use l a=r}", "{for x in r}{use t a=x.x b=s}{end}",
                                   "{let p = 1}{let a = \"y\"}{use t a=a b=p}{end}{end}")):
            library.define("abcdefg"[at] * 2, "{p: text, q: number, r: [{x: text} by x], s: number?}", body)
        self.assertEqual(library.dependents("t"), ("aa", "bb", "cc", "dd", "ff", "gg"))


class LibraryTest(unittest.TestCase):
    def test_an_empty_library(self):
        library = Library()
        self.assertEqual((library.names, len(library), library.compilations, repr(library)),
                ((), 0, 0, "Library(0 templates)"))
        self.assertFalse(library)
        self.assertEqual(library, Library())

    def test_names_and_length(self):
        library = library_of(("b", ""), ("a", ""), ("ab", ""))
        self.assertEqual((library.names, len(library), repr(library)), (("a", "ab", "b"), 3, "Library(3 templates)"))
        self.assertTrue(library)
        self.assertEqual(repr(library_of(("a", ""))), "Library(1 templates)")

    def test_members(self):
        library = library_of(("a", ""), ("b", "x"))
        self.assertIs("a" in library, True)
        self.assertIs("c" in library, False)
        self.assertIs("a" not in library, False)
        for thing in NO_NAMES:
            self.assertIs(thing in library, False, thing)
            self.assertIs(raised(InvalidName, library.__getitem__, thing).called, thing)
        self.assertEqual((library["a"].name, library["b"].body), ("a", "x"))
        self.assertEqual(raised(MissingTemplate, library.__getitem__, "c").called, "c")

    def test_equality(self):
        one, other = library_of(("a", "x"), ("b", "{use a}")), Library()
        other.define("z", "", "")
        other.define("a", "", "y")
        other.replace("a", "x")
        other.define("b", "", "{use a}")
        self.assertFalse(one == other)
        other.remove("z")
        self.assertTrue(one == other)
        self.assertFalse(one != other)
        for changed in (library_of(("a", "x")), library_of(("a", "x"), ("b", "x")),
                library_of(("a", "x"), ("c", "{use a}")), library_of(("a", "x", "{p: text}"), ("b", "{use a p=\"\"}")),
                        library_of(("a", "x"), ("b", "{use a}", "{p: text}")), Library(), None, "a", ("a", "b"), Odd(),
                        {"a": one["a"]}):
            self.assertIs(one == changed, False)
            self.assertIs(one != changed, True)
            self.assertIs(changed != one, True)

    def test_equality_of_templates(self):
        one = library_of(("a", "x"))["a"]
        self.assertTrue(one == library_of(("b", ""), ("a", "x"))["a"])
        self.assertFalse(one != library_of(("a", "x"))["a"])
        for other in (library_of(("a", "x{**}"))["a"], library_of(("b", "x"))["b"],
                library_of(("a", "x", "{p: text}"))["a"], None, "a", Odd(), library_of(("a", "x")), Type.read("text")):
            self.assertIs(one == other, False)
            self.assertIs(one != other, True)
            self.assertIs(other != one, True)

    def test_compilations(self):
        library = Library()
        for many, (name, body) in enumerate((("a", "{slot}"), ("b", "{use a}"), ("c", "{use b}"),
                ("d", "{wrap a}{use c}{end}"), ("e", "y")), 1):
            library.define(name, "", body)
            self.assertEqual(library.compilations, many)
        for name, more in (("e", 1), ("d", 1), ("c", 2), ("b", 3), ("a", 4)):
            before = library.compilations
            library.replace(name, library[name].body)
            self.assertEqual(library.compilations, before + more)
        before = library.compilations
        shown(library)
        library.remove("e")
        self.assertEqual(library.compilations, before)
        raised(InUse, library.remove, "a")
        raised(NameTaken, library.define, "a", "", "")
        raised(InvalidTag, library.replace, "a", "{= x}")
        self.assertEqual(library.compilations, before)


class ReplaceTest(unittest.TestCase):
    def setUp(self):
        self.library = library_of(("row", "<b>{= t}</b>{slot}", "{t: text}"), ("list", "{for t in l}{use row t=t}{end}",
                "{l: [text]}"), ("page", "{use list l=l}{slot}", "{l: [text]}"),
                                  ("frame", "{wrap row t=\"x\"}<i>{= n}</i>{end}", "{n: number}"), ("other", "x"))

    def test_another_body(self):
        before, old = self.library.compilations, self.library["row"]
        found = self.library.replace("row", "{slot}<i a=\"{= t}\"></i>{slot}")
        self.assertEqual((found.name, found.body, found.contexts, found.slots),
                ("row", "{slot}<i a=\"{= t}\"></i>{slot}", ((12, "attribute"),), 2))
        self.assertEqual(found.parameters, Type.read("{t: text}"))
        self.assertEqual((self.library["row"], self.library.compilations), (found, before + 4))
        self.assertEqual((old.body, old.slots, old.contexts), ("<b>{= t}</b>{slot}", 1, ((3, "text"),)))
        self.assertEqual(self.library.dependents("row"), ("frame", "list", "page"))
        self.assertEqual(self.library.replace(body="y", name="other").body, "y")
        self.assertEqual(len(self.library), 5)

    def test_other_uses(self):
        self.library.replace("page", "{use other}{wrap row t=\"a\"}{use frame n=1}{end}")
        self.assertEqual(self.library["page"].uses, ("frame", "other", "row"))
        self.assertEqual((self.library.dependents("list"), self.library.dependents("other"),
                self.library.dependents("frame")), ((), ("page",), ("page",)))

    def test_names(self):
        before = shown(self.library)
        for thing in NO_NAMES:
            for call in (self.library.replace, lambda name, _: self.library.remove(name), lambda name,
                    _: self.library.dependents(name)):
                self.assertIs(raised(InvalidName, call, thing, "{").called, thing)
        for call in (self.library.replace, lambda name, _: self.library.remove(name), lambda name,
                _: self.library.dependents(name)):
            self.assertEqual(raised(MissingTemplate, call, "missing", "{").called, "missing")
        self.assertEqual(raised(MissingTemplate, self.library.replace, "missing", None).called, "missing")
        self.assertEqual(shown(self.library), before)

    def test_it_cannot_use_itself(self):
        before = shown(self.library)
        for body, position in (("{use other}", 0), ("a{use other}", 1), ("{wrap other}{end}", 0),
                ("{if true}{use other}{end}", 9), ("{wrap row t=\"\"}{use other}{end}", 15)):
            self.assertEqual(raised(InvalidTag, self.library.replace, "other", body).position, position)
        self.assertEqual(raised(InvalidTag, self.library.replace, "row", "{slot}{wrap row t=t}{end}").position, 6)
        self.assertEqual(shown(self.library), before)

    def test_rings(self):
        before = shown(self.library)
        self.assertEqual(raised(Ring, self.library.replace, "row", "{slot}{use frame n=1}").called, "frame")
        self.assertEqual(raised(Ring, self.library.replace, "row",
                "{slot}{if true}{use other}{use frame n=1}{end}").called, "frame")
        self.assertEqual(raised(Ring, self.library.replace, "list", "{use page l=l}").called, "page")
        self.assertEqual(raised(Ring, self.library.replace, "list", "{wrap page l=l}{use other}{end}").called, "page")
        self.assertEqual(raised(Ring, self.library.replace, "list", "{wrap row t=\"\"}{use page l=l}{end}").called,
                "page")
        self.assertEqual(shown(self.library), before)

    def test_the_least_name_of_a_ring(self):
        library = library_of(("m", "x"), ("z", "{use m}"), ("b", "{use z}"), ("c", "{use b}"), ("a", "x"),
                ("d", "{use m}"))
        for body, least in (("{use z}", "z"), ("{use b}", "b"), ("{use c}", "b"), ("{use z}{use c}", "b"),
                ("{use a}{use z}{use d}", "d"), ("{use d}{use c}", "b"), ("{use a}{use d}", "d")):
            self.assertEqual(raised(Ring, library.replace, "m", body).called, least)
        library.define("aa", "", "{use c}")
        self.assertEqual(raised(Ring, library.replace, "m", "{use aa}").called, "aa")
        self.assertEqual(raised(Ring, library.replace, "m", "{use c}").called, "b")
        self.assertEqual(raised(Ring, library.replace, "z", "{use aa}").called, "aa")
        library.replace("z", "x")
        library.replace("m", "{use aa}")
        self.assertEqual(library.dependents("z"), ("aa", "b", "c", "d", "m"))
        self.assertEqual(raised(Ring, library.replace, "z", "{use m}").called, "aa")

    def test_slots_that_are_wanted(self):
        before = shown(self.library)
        self.assertEqual(raised(InUse, self.library.replace, "row", "<b>{= t}</b>").called, "frame")
        self.assertEqual(raised(InUse, self.library.replace, "row", "{* {slot *}").called, "frame")
        self.assertEqual(shown(self.library), before)
        self.library.define("card", "", "{wrap row t=\"\"}{end}")
        self.library.define("zz", "", "{if false}{wrap row t=\"\"}{end}{end}")
        self.assertEqual(raised(InUse, self.library.replace, "row", "").called, "card")
        self.library.replace("card", "{use row t=\"\"}")
        self.assertEqual(raised(InUse, self.library.replace, "row", "").called, "frame")
        self.library.replace("frame", "{use row t=\"\"}")
        self.assertEqual(raised(InUse, self.library.replace, "row", "").called, "zz")
        self.assertEqual(self.library.replace("page", "").slots, 0)
        self.library.remove("zz")
        self.assertEqual(self.library.replace("row", "").slots, 0)


class RemoveTest(unittest.TestCase):
    def test_remove(self):
        library = library_of(("b", "{slot}"), ("c", "{use b}"), ("a", "{wrap b}{use c}{end}"), ("d", "x"))
        before = shown(library)
        self.assertEqual(raised(InUse, library.remove, "b").called, "a")
        self.assertEqual(raised(InUse, library.remove, "c").called, "a")
        self.assertEqual(shown(library), before)
        removed = library.remove(name="a")
        self.assertEqual((removed.name, removed.body), ("a", "{wrap b}{use c}{end}"))
        self.assertEqual((library.names, len(library), "a" in library, library.dependents("b")),
                (("b", "c", "d"), 3, False, ("c",)))
        self.assertEqual(raised(MissingTemplate, library.remove, "a").called, "a")
        self.assertEqual(raised(InUse, library.remove, "b").called, "c")
        self.assertEqual([library.remove(name).name for name in ("c", "b", "d")], ["c", "b", "d"])
        self.assertEqual((library.names, library == Library(), library.compilations), ((), True, 4))
        self.assertEqual(library.define("b", "{t: text}", "{= t}").body, "{= t}")

    def test_dependents(self):
        library = library_of(("m", "{slot}"), ("z", "{use m}"), ("b", "{wrap m}{end}"), ("y", "{use z}"),
                ("a", "{use y}{use b}"), ("c", "x"))
        wanted = {"m": ("a", "b", "y", "z"), "z": ("a", "y"), "b": ("a",), "y": ("a",), "a": (), "c": ()}
        for name, names in wanted.items():
            self.assertEqual(library.dependents(name), names)
            self.assertEqual(library.dependents(name=name), names)


if __name__ == "__main__":
    unittest.main()
