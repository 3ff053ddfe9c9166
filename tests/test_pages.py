"""Points 2 to 6, 17 and the section on pages: live pages, what they tell, and what is evaluated again."""

import random
import unittest

from shapekeep.errors import MissingTemplate, NoSuchPath, NotALibrary, TooManyElements, Unfit
from shapekeep.library import Library
from shapekeep.pages import Page, patched
from shapekeep.rendering import render, render_tree
from tests.acting import Change, after, drawn_action
from tests.runs import Run
from tests.support import raised
from tests.templates import LibraryGrower
from tests.test_library import NO_NAMES, library_of
from tests.test_rendering import PAGES, define_all


class Odd:
    """An object of no kind that the program knows."""


class NewPageTest(unittest.TestCase):
    def test_pages_of_all_kinds(self):
        for templates, data, text in PAGES:
            library, name = define_all(templates)
            before = repr(data)
            page = Page(data=data, name=name, library=library)
            self.assertEqual((page.text, str(page)), (text, text))
            self.assertEqual(repr(page.data), before)
            self.assertEqual(repr(page.tree), repr(render_tree(library, name, data)))
            self.assertEqual(page.evaluated, tuple(one.tag for one in Run(library, name, data).evaluations))
            self.assertEqual((page.busy, page.attempts, page.history()), (False, 0, ()))
            self.assertEqual(repr(page), f"Page('{name}', {len(text)} characters)")
            self.assertEqual((repr(data), bool(page)), (before, True))

    def test_evaluations_in_the_order_in_which_they_are_reached(self):
        library = library_of(("u", "{= t}", "{t: text}"), ("page",
                "{= 2}{if f}{= t}{else}{= 3}{end}{for x in l}{let y = x}{= y}{end}{end}{use u t=t}",
                "{f: flag, l: [text], t: text}"))
        page = Page(library, "page", {"f": True, "l": ("a", "b"), "t": "x"})
        self.assertEqual(page.evaluated, (("page", 0), ("page", 5), ("page", 11), ("page", 32), ("page", 44),
                         ("page", 55), ("page", 44), ("page", 55), ("page", 70), ("u", 0)))

    def test_wraps_and_slots(self):
        library = library_of(("box", "{slot}{= a}{for x in l}{slot}{end}", "{a: text, l: [text]}"),
                ("plain", "<b>{slot}</b>"),
                ("page", "{wrap box a=t l=l}{wrap plain}{= t}{end}{end}{slot}", "{l: [text], t: text}"))
        page = Page(library, "page", {"l": ("1",), "t": "x"})
        self.assertEqual((page.text, page.evaluated), ("<b>x</b>x<b>x</b>",
                         (("page", 0), ("page", 30), ("box", 6), ("box", 11), ("page", 30))))

    def test_errors(self):
        library = library_of(("a", "{= t}", "{t: text}"), ("b", ""))
        for thing in (None, 1, "a", {}, Odd(), Library):
            self.assertIs(raised(NotALibrary, Page, thing, "no", 5).value, thing)
        for thing in NO_NAMES + ["c"]:
            self.assertIs(raised(MissingTemplate, Page, library, thing, 5).called, thing)
        for data, path in ((None, ()), ({}, ("t",)), ({"t": 1}, ("t",)), ({"t": "", "u": 1}, ()), (Odd(), ())):
            self.assertEqual(raised(Unfit, Page, library, "a", data).path, path)
        for data in (None, (), {"a": 1}, []):
            self.assertEqual(raised(Unfit, Page, library, "b", data).path, ())

    def test_equality(self):
        one, other = library_of(("a", "{= n}", "{n: number}"), ("c", "x")), library_of(("a", "{= n}", "{n: number}"),
                ("b", "{= n}", "{n: number}"), ("c", "y"))
        page = Page(one, "a", {"n": 1})
        self.assertTrue(page == Page(other, "a", {"n": 1}))
        self.assertFalse(page != Page(other, "a", {"n": 1}))
        for thing in (Page(other, "b", {"n": 1}), Page(one, "a", {"n": 2}), None, "1", 1, {"n": 1}, one, Odd()):
            self.assertFalse(page == thing)
            self.assertTrue(page != thing)
        self.assertNotEqual(Page(one, "c", {}), Page(other, "c", {}))
        changed = Page(one, "a", {"n": 5})
        changed.change(("n",), 1)
        self.assertEqual(page, changed)

    def test_equality_of_data(self):
        numbers, flags = library_of(("a", "x", "{v: number}")), library_of(("a", "x", "{v: flag}"))
        self.assertNotEqual(Page(numbers, "a", {"v": 1}), Page(flags, "a", {"v": True}))
        self.assertNotEqual(Page(numbers, "a", {"v": 0}), Page(flags, "a", {"v": False}))
        rows = library_of(("a", "x", "{v: [{a: text?, b: text}], w: text}"))
        data = {"v": ({"a": None, "b": ""},), "w": "x"}
        self.assertEqual(Page(rows, "a", data), Page(rows, "a", {"w": "x", "v": ({"b": "", "a": None},)}))
        self.assertNotEqual(Page(rows, "a", data), Page(rows, "a", {"w": "x", "v": ({"b": "", "a": ""},)}))
        self.assertNotEqual(Page(rows, "a", data), Page(rows, "a", {"w": "x", "v": ()}))

    def test_the_library_changes_later(self):
        library = library_of(("u", "({= t})", "{t: text}"), ("page", "{if f}{use u t=t}{end}", "{f: flag, t: text}"))
        page = Page(library, "page", {"f": False, "t": "x"})
        library.replace("u", "[{= t}]")
        library.replace("page", "new")
        library.remove("u")
        library.define("u", "", "other")
        self.assertEqual((page.change(("f",), True), page.text), (((0, 0, "(x)"),), "(x)"))
        library.remove("page")
        self.assertEqual((page.change(("t",), "y"), page.text, page.evaluated),
                         (((1, 2, "y"),), "(y)", (("page", 6), ("u", 1))))
        self.assertEqual((page.undo(), page.undo(), page.text), (((1, 2, "x"),), ((0, 3, ""),), ""))


class EvaluatedTest(unittest.TestCase):
    """What is evaluated again, and the patches, for bodies of all kinds."""

    def check(self, page, action, evaluated, patches, text):
        """Does an action; the evaluations are told by the tags, those of other templates behind their names."""
        old = page.text
        self.assertEqual(page.do(action), patches)
        self.assertEqual((page.text, patched(old, patches)), (text, text))
        self.assertEqual(tuple(self.tag(name, index) for name, index in page.evaluated), evaluated)

    def page(self, body, parameters, data, *others):
        self.library = library_of(*others, ("page", body, parameters))
        return Page(self.library, "page", data)

    def tag(self, name, index):
        body = self.library[name].body
        return (name + " ") * (name != "page") + body[index:body.index("}", index) + 1]

    def test_holes_and_ifs(self):
        page = self.page("{= a}{if f}{= b}{else}{= c}{end}{= joined(a, b)}", "{a: text, b: text, c: text, f: flag}",
                {"a": "A", "b": "B", "c": "C", "f": True})
        self.check(page, ("set", ("a",), "AA"), ("{= a}", "{= joined(a, b)}"), ((1, 1, "A"), (3, 3, "A")), "AABAAB")
        self.check(page, ("set", ("c",), "x"), (), (), "AABAAB")
        self.check(page, ("set", ("f",), False), ("{if f}", "{= c}"), ((2, 3, "x"),), "AAxAAB")
        self.check(page, ("set", ("b",), ""), ("{= joined(a, b)}",), ((5, 6, ""),), "AAxAA")
        self.check(page, ("set", ("f",), True), ("{if f}", "{= b}"), ((2, 3, ""),), "AAAA")

    def test_reads_of_records_and_fields(self):
        page = self.page("{let x = r}{= x.a}{end}{= r.a}{= r.b}<data>{= r}</data>", "{r: {a: text, b: text}}",
                {"r": {"a": "1", "b": "2"}})
        self.assertEqual(page.text, "112<data>{\"a\":\"1\",\"b\":\"2\"}</data>")
        self.check(page, ("set", ("r", "b"), "3"), ("{let x = r}", "{= r.b}", "{= r}"), ((2, 3, "3"), (23, 24, "3")),
                   "113<data>{\"a\":\"1\",\"b\":\"3\"}</data>")
        self.check(page, ("set", ("r",), {"b": "3", "a": "1"}), (), (), page.text)
        self.check(page, ("set", ("r",), {"b": "3", "a": "x"}), ("{let x = r}", "{= x.a}", "{= r.a}", "{= r}"),
                   ((0, 1, "x"), (1, 2, "x"), (15, 16, "x")), "xx3<data>{\"a\":\"x\",\"b\":\"3\"}</data>")

    def test_lists_without_keys(self):
        page = self.page("{for x in l}<b>{= x}</b>{end}{= size(l)}", "{l: [text]}", {"l": ("a", "b")})
        self.check(page, ("set", ("l", 1), "c"), ("{= x}", "{= size(l)}"), ((11, 12, "c"),), "<b>a</b><b>c</b>2")
        self.check(page, ("insert", ("l",), 0, "z"), ("{for x in l}", "{= x}", "{= x}", "{= x}", "{= size(l)}"),
                   ((3, 3, "z</b><b>"), (16, 17, "3")), "<b>z</b><b>a</b><b>c</b>3")
        self.check(page, ("insert", ("l",), 3, "y"), ("{for x in l}", "{= x}", "{= size(l)}"),
                   ((24, 24, "<b>y</b>"), (24, 25, "4")), "<b>z</b><b>a</b><b>c</b><b>y</b>4")
        self.check(page, ("delete", ("l",), 3), ("{for x in l}", "{= size(l)}"), ((24, 32, ""), (32, 33, "3")),
                   "<b>z</b><b>a</b><b>c</b>3")
        self.check(page, ("move", ("l",), 0, 1), ("{= x}", "{= x}", "{= size(l)}"), ((3, 4, "a"), (11, 12, "z")),
                   "<b>a</b><b>z</b><b>c</b>3")

    def test_lists_with_keys(self):
        page = self.page("{for x in l}<b>{= x.t}</b>{end}", "{l: [{id: number, t: text} by id]}",
                {"l": tuple({"id": at, "t": "abc"[at]} for at in range(3))})
        self.check(page, ("move", ("l",), 2, 0), ("{for x in l}",), ((3, 20, "c</b><b>a</b><b>b"),),
                   "<b>c</b><b>a</b><b>b</b>")
        self.check(page, ("set", ("l", 0, "t"), "x"), ("{= x.t}",), ((3, 4, "x"),), "<b>x</b><b>a</b><b>b</b>")
        self.check(page, ("insert", ("l",), 1, {"id": 9, "t": "n"}), ("{for x in l}", "{= x.t}"),
                   ((11, 11, "n</b><b>"),), "<b>x</b><b>n</b><b>a</b><b>b</b>")
        self.check(page, ("delete", ("l",), 0), ("{for x in l}",), ((3, 11, ""),), "<b>n</b><b>a</b><b>b</b>")
        # Another key is another element, although the text is the same.
        self.check(page, ("set", ("l", 0, "id"), 10), ("{for x in l}", "{= x.t}"), (), "<b>n</b><b>a</b><b>b</b>")
        # The keys 10 and 0 are known elements: just the one with another text is evaluated again.
        self.check(page, ("set", ("l",), ({"id": 10, "t": "b"}, {"id": 0, "t": "a"})), ("{for x in l}", "{= x.t}"),
                   ((3, 20, "b</b><b>a"),), "<b>b</b><b>a</b>")

    def test_a_list_that_keeps_its_keys(self):
        page = self.page("{for x in l}{= x.t}{= x.n}{end}", "{l: [{id: text, n: number, t: text} by id]}",
                {"l": ({"id": "a", "t": "x", "n": 1}, {"id": "b", "t": "y", "n": 2})})
        self.check(page, ("set", ("l",), ({"id": "a", "t": "x", "n": 5}, {"id": "b", "t": "z", "n": 2})),
                   ("{= x.n}", "{= x.t}"), ((1, 2, "5"), (2, 3, "z")), "x5z2")

    def test_lists_within_elements(self):
        page = self.page("{for x in l}{for y in x.m}{= y}{= x.id}{end};{end}", "{l: [{id: number, m: [text]} by id]}",
                {"l": ({"id": 1, "m": ("a",)}, {"id": 2, "m": ()})})
        self.assertEqual(page.text, "a1;;")
        self.check(page, ("insert", ("l", 1, "m"), 0, "b"), ("{for y in x.m}", "{= y}", "{= x.id}"), ((3, 3, "b2"),),
                   "a1;b2;")
        self.check(page, ("move", ("l",), 0, 1), ("{for x in l}",), ((0, 5, "b2;a1"),), "b2;a1;")
        self.check(page, ("set", ("l", 1, "m", 0), "c"), ("{= y}",), ((3, 4, "c"),), "b2;c1;")

    def test_used_templates(self):
        page = self.page("{for x in l}{use row n=x.n r=x}{end}", "{l: [{n: number, t: text} by n]}",
                {"l": ({"n": 1, "t": "a"}, {"n": 2, "t": "b"})},
                ("row", "<i>{= r.t}</i>{= n}", "{n: number, r: {n: number, t: text}}"))
        self.check(page, ("set", ("l", 1, "t"), "c"), ("{use row n=x.n r=x}", "row {= r.t}"), ((12, 13, "c"),),
                   "<i>a</i>1<i>c</i>2")
        self.check(page, ("move", ("l",), 0, 1), ("{for x in l}",), ((3, 18, "c</i>2<i>a</i>1"),), "<i>c</i>2<i>a</i>1")

    def test_templates_that_are_used_twice(self):
        page = self.page("{use u t=a}{use u t=b}{use u t=a}", "{a: text, b: text}", {"a": "1", "b": "2"},
                ("u", "{= t}", "{t: text}"))
        self.check(page, ("set", ("b",), "x"), ("{use u t=b}", "u {= t}"), ((1, 2, "x"),), "1x1")
        self.check(page, ("set", ("a",), "y"), ("{use u t=a}", "u {= t}") * 2, ((0, 1, "y"), (2, 3, "y")), "yxy")

    def test_slots_in_loops_and_loops_around_slots(self):
        page = self.page("{for y in m}{wrap box l=l}{= y}{= t}{end}{end}", "{l: [text], m: [text], t: text}",
                {"l": ("1", "2"), "m": ("a",), "t": "!"}, ("box", "{for x in l}<b>{slot}{= x}</b>{end}", "{l: [text]}"))
        self.assertEqual(page.text, "<b>a!1</b><b>a!2</b>")
        self.check(page, ("set", ("t",), "?"), ("{= t}", "{= t}"), ((4, 5, "?"), (14, 15, "?")), "<b>a?1</b><b>a?2</b>")
        self.check(page, ("insert", ("l",), 2, "3"),
                   ("{wrap box l=l}", "box {for x in l}", "{= y}", "{= t}", "box {= x}"), ((20, 20, "<b>a?3</b>"),),
                   "<b>a?1</b><b>a?2</b><b>a?3</b>")
        self.check(page, ("set", ("l", 0), "x"), ("{wrap box l=l}", "box {= x}"), ((5, 6, "x"),),
                   "<b>a?x</b><b>a?2</b><b>a?3</b>")

    def test_lets_and_hidden_variables(self):
        page = self.page("{let x = sum(n, m)}{= x}{let n = x}{= n}{end}{end}{= n}", "{m: number, n: number}",
                {"m": 1, "n": 2})
        self.check(page, ("set", ("n",), 5), ("{let x = sum(n, m)}", "{= x}", "{let n = x}", "{= n}", "{= n}"),
                   ((0, 2, "66"), (2, 3, "5")), "665")
        self.check(page, ("set", ("n",), 5), (), (), "665")
        other = self.page("{let x = equal(n, 1)}{if x}a{else}b{end}{end}", "{n: number}", {"n": 2})
        # The flag is the same, so what reads only the flag is not done again.
        self.check(other, ("set", ("n",), 3), ("{let x = equal(n, 1)}",), (), "b")
        self.check(other, ("set", ("n",), 1), ("{let x = equal(n, 1)}", "{if x}"), ((0, 1, "a"),), "a")

    def test_constants_are_evaluated_once(self):
        page = self.page("{= 1}{if true}{= \"x\"}{end}{= t}{let y = 2}{= y}{end}", "{t: text}", {"t": "a"})
        self.assertEqual(len(page.evaluated), 6)
        self.check(page, ("set", ("t",), "b"), ("{= t}",), ((2, 3, "b"),), "1xb2")

    def test_values_of_different_kinds(self):
        page = self.page("<data>{= v}</data>{if has(v)}!{end}", "{v: {a: [number?]}?}", {"v": None})
        both = ("{= v}", "{if has(v)}")
        self.check(page, ("set", ("v",), {"a": ()}), both, ((6, 10, "{\"a\":[]}"), (17, 17, "!")),
                   "<data>{\"a\":[]}</data>!")
        self.check(page, ("insert", ("v", "a"), 0, None), both, ((12, 12, "null"),), "<data>{\"a\":[null]}</data>!")
        self.check(page, ("set", ("v", "a", 0), 0), both, ((12, 16, "0"),), "<data>{\"a\":[0]}</data>!")

    def test_texts_that_repeat_themselves(self):
        page = self.page("{= t}", "{t: text}", {"t": "aaa"})
        for text, patch in (("aaaaa", (3, 3, "aa")), ("aa", (2, 5, "")), ("abaaba", (1, 1, "baab")), ("aba",
                (3, 6, "")),
                ("", (0, 3, "")), ("x", (0, 0, "x"))):
            self.check(page, ("set", ("t",), text), ("{= t}",), (patch,), text)

    def test_drawn_actions(self):
        for seed in range(40):
            grower = LibraryGrower(random.Random(seed))
            library = grower.grow(6)
            for name in library.names:
                page = Page(library, name, grower.data(name))
                if library[name].parameters is not None:
                    self.check_actions(library, name, page, grower)

    def check_actions(self, library, name, page, grower):
        for _ in range(4):
            action, data, text = drawn_action(grower, library[name].parameters, page.data), page.data, page.text
            try:
                patches = page.do(action)
            except (NoSuchPath, Unfit, TooManyElements):
                self.assertEqual((page.data, page.text), (data, text))
                continue
            self.assertEqual(repr(page.data), repr(after(data, action)))
            change = Change(library, name, data, page.data)
            self.assertEqual((page.text, page.evaluated, patches), (change.text, change.evaluated, change.patches))
            self.assertEqual((patched(text, patches), render(library, name, page.data)), (page.text, page.text))
            self.assertEqual(repr(page.tree), repr(render_tree(library, name, page.data)))
            if grower.random.random() < 0.3:
                present = page.data
                back = Change(library, name, present, data)
                self.assertEqual((page.undo(), page.evaluated, page.text), (back.patches, back.evaluated, text))
                self.assertEqual(page.data, data)


if __name__ == "__main__":
    unittest.main()
