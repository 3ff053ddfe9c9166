"""Points 2 to 4, 7, 15 and the section on certificates: true claims, with certificates that the checker accepts."""

import itertools
import random
import unittest

from shapekeep.certificates import (certify_accepted, certify_page, certify_patched, certify_place, certify_shape,
                                    templates_of)
from shapekeep.checker import accepts
from shapekeep.errors import (Busy, InvalidAction, InvalidText, MissingTemplate, NoSuchPath, NotALibrary,
        TooManyElements,
                              TooManyEntries, Unfit)
from shapekeep.library import Library
from shapekeep.pages import Page, patched
from shapekeep.rendering import origins, render, render_tree
from tests.acting import drawn_action
from tests.claims import Odd, Same, is_page, library_from
from tests.support import raised
from tests.templates import LibraryGrower
from tests.test_library import NO_NAMES, library_of
from tests.test_places import GROUPS, NOWHERE

DEEP = "<a>" * 30


class TemplatesTest(unittest.TestCase):
    def test_orders(self):
        for defined, listed in (
                ((), ""), ((("a", ""),), "a"), ((("b", ""), ("a", "")), "ab"), ((("b", ""), ("a", "{use b}")), "ba"),
                ((("c", ""), ("b", "{use c}"), ("a", "{use b}")), "cba"),
                ((("c", "{slot}"), ("d", ""), ("a", "{wrap c}{use d}{end}"), ("b", "")), "bcda"),
                ((("d", ""), ("a", "{use d}"), ("b", ""), ("c", "")), "bcda"),
                ((("e", ""), ("b", "{use e}"), ("d", ""), ("a", "{use d}"), ("c", "{use a}")), "daceb"),
                ((("z", ""), ("y", "{use z}"), ("a", "{use y}"), ("b", "{use z}"), ("c", "")), "czbya")):
            library = library_of(*defined)
            found = templates_of(library=library)
            self.assertEqual("".join(name for name, _, _ in found), listed)
            self.assertEqual({name: body for name, _, body in found}, dict(defined))
            self.assertEqual((type(found), {type(one) for one in found} | {tuple}), (tuple, {tuple}))
            self.assertEqual(library_from(found), library)

    def test_parameters_and_bodies_as_they_were_passed(self):
        library = library_of(("b", "{* x *}{= t}", "{n: number?, t: text}"), ("a", ""))
        self.assertEqual(templates_of(library), (("a", "", ""), ("b", "{n: number?, t: text}", "{* x *}{= t}")))

    def test_after_replace_and_remove(self):
        library = library_of(("a", ""), ("b", "{use a}"), ("c", ""))
        library.replace("b", "")
        library.replace("a", "{use b}{use c}")
        self.assertEqual([name for name, _, _ in templates_of(library)], ["b", "c", "a"])
        self.assertTrue(accepts(*certify_accepted(library, "a")))
        library.remove("a")
        library.define("a", "{t: text}", "{= t}")
        self.assertEqual([name for name, _, _ in templates_of(library)], ["a", "b", "c"])
        self.assertEqual(certify_accepted(library, "a"), (("accepted", templates_of(library), "a", ((0, "text"),)),
                None))

    def test_no_libraries(self):
        for thing in (None, 1, True, "a", (), {}, [], Odd(), Same(), Library):
            self.assertIs(raised(NotALibrary, templates_of, thing).value, thing)
            self.assertIs(raised(NotALibrary, certify_accepted, thing, 5).value, thing)
            for function in (certify_page, certify_shape):
                self.assertIs(raised(NotALibrary, function, thing, 5, 5).value, thing)


class LibraryClaimsTest(unittest.TestCase):
    LIBRARY = library_of(("box", "<b>{slot}{= t}</b>", "{t: text}"), ("page", "{wrap box t=t}{= t}{end}", "{t: text}"))

    def test_claims(self):
        listed, data = templates_of(self.LIBRARY), {"t": "<"}
        self.assertEqual(certify_accepted(name="page", library=self.LIBRARY),
                         (("accepted", listed, "page", ((14, "text"),)), None))
        text = "<b>&lt;&lt;</b>"
        self.assertEqual(certify_page(data=data, name="page", library=self.LIBRARY),
                (("page", listed, "page", data, text), (
            ("<b>", "box", 0), ("&lt;", "page", 14), ("&lt;", "box", 9), ("</b>", "box", 14))))
        self.assertEqual(certify_shape(data=data, name="page", library=self.LIBRARY), (("shape", listed, "page", data, (
            ("element", "b", (), (("text", "<<"),)),)), None))

    def test_errors(self):
        for thing in NO_NAMES + ["none"]:
            self.assertIs(raised(MissingTemplate, certify_accepted, self.LIBRARY, thing).called, thing)
            for function in (certify_page, certify_shape):
                self.assertIs(raised(MissingTemplate, function, self.LIBRARY, thing, 5).called, thing)
        for data, path in ((None, ()), ({}, ("t",)), ({"t": 5}, ("t",)), ({"t": "", "u": 1}, ())):
            for function in (certify_page, certify_shape):
                self.assertEqual(raised(Unfit, function, self.LIBRARY, "page", data).path, path)

    def test_grown_libraries(self):
        for seed in range(30):
            grower = LibraryGrower(random.Random(seed))
            library = grower.grow(5)
            for name in library.names:
                data = grower.data(name)
                claim, certificate = certify_accepted(library, name)
                self.assertEqual((claim[0], claim[2:], certificate), ("accepted", (name, library[name].contexts), None))
                self.assertIs(accepts(claim, certificate), True)
                claim, certificate = certify_page(library, name, data)
                self.assertEqual((claim[2:], certificate), ((name, data, render(library, name, data)),
                                 origins(library, name, data)))
                self.assertIs(accepts(claim, certificate), True)
                claim, certificate = certify_shape(library, name, data)
                self.assertEqual((claim[2:], certificate), ((name, data, render_tree(library, name, data)), None))
                self.assertIs(accepts(claim, certificate), True)


class PatchedTest(unittest.TestCase):
    LIBRARY = library_of(("page", "{for x in l}<b>{= x}</b>{end}{= n}", "{l: [text], n: number}"))

    def page(self):
        return Page(self.LIBRARY, "page", {"l": ("a", "b"), "n": 1})

    def test_actions_of_every_kind(self):
        page, other = self.page(), self.page()
        for action in (("set", ("n",), 2), ("insert", ("l",), 1, "c"), ("delete", ("l",), 0), ("move", ("l",), 0, 1),
                ("set", ("n",), 2), ("set", ("l",), ())):
            old = page.text
            claim, certificate = certify_patched(action=action, page=page)
            self.assertEqual((claim, certificate), (("patched", old, page.text), other.do(action)))
            self.assertEqual((page, page.history(), page.evaluated), (other, other.history(), other.evaluated))
            self.assertIs(accepts(claim, certificate), True)

    def test_errors(self):
        page = self.page()
        for thing in (None, (), ["set", ("n",), 1], ("set", ("n",))):
            self.assertIsNone(raised(InvalidAction, certify_patched, page, thing).index)
        self.assertEqual(raised(NoSuchPath, certify_patched, page, ("set", ("x",), 1)).path, ("x",))
        self.assertEqual(raised(Unfit, certify_patched, page, ("set", ("n",), "")).path, ("n",))
        raised(Busy, page.do_all, (("set", ("n",), 5),), observer=lambda one, _: certify_patched(one, None))
        self.assertEqual((page, page.history()), (self.page(), ()))
        page.change(("l",), ("x",) * 60)
        self.assertEqual(raised(TooManyElements, certify_patched, page, ("insert", ("l",), 0, 5)).found, 61)
        for at in range(99):
            certify_patched(page, ("set", ("n",), at))
        self.assertEqual(raised(TooManyEntries, certify_patched, page, ("set", ("n",), 5)).found, 101)

    def test_drawn_actions(self):
        for seed in range(25):
            grower = LibraryGrower(random.Random(seed))
            library = grower.grow(4)
            for name in library.names:
                page = Page(library, name, grower.data(name))
                for _ in range(4 if library[name].parameters else 0):
                    action, old = drawn_action(grower, library[name].parameters, page.data), page.text
                    try:
                        claim, certificate = certify_patched(page, action)
                    except (NoSuchPath, Unfit):
                        continue
                    self.assertEqual((claim, patched(old, certificate)), (("patched", old, page.text), page.text))
                    self.assertIs(accepts(claim, certificate), True)


class PlaceTest(unittest.TestCase):
    def check(self, one, other, same):
        claim, certificate = certify_place(one, other)
        self.assertEqual(claim, ("same place" if same else "other place", one, other))
        self.assertIs(accepts(claim, certificate), True, (claim, certificate))
        if same:
            self.assertIsNone(certificate)
        else:
            self.assertNotEqual(is_page(one + certificate), is_page(other + certificate))

    def test_all_kinds_of_places(self):
        for first, second in itertools.combinations_with_replacement(range(len(GROUPS)), 2):
            for one, other in itertools.product(GROUPS[first][:2], GROUPS[second][:2]):
                self.check(one, other, first == second)
                self.check(other, one, first == second)

    def test_levels_elements_and_last_names(self):
        self.check("<data>" + "[" * 5, "<data>" + "[" * 6, False)
        self.check("<data>[" + "1," * 57, "<data>[" + "1," * 58, False)
        self.check("<data>[" + "1," * 59, "<data>[" + "1," * 58, False)
        self.check("<data>[" + "1," * 59, "<data>[" + "[]," * 59, True)
        self.check("<data>[[[" + "1," * 10 + "-", "<data>[[[" + "1," * 11 + "-", False)
        self.check("<data>[{\"a\":[1", "<data>[{\"b\":[1", False)
        self.check("<data>[1,{\"a\":[{\"x\":\"", "<data>[{\"a\":[{\"x\":\"", False)
        self.check("<data>{\"a\":1,\"", "<data>{\"b\":1,\"", False)
        self.check("<data>{\"ab\":1,\"a", "<data>{\"ac\":1,\"a", False)
        self.check("<data>{\"ab\":1,\"c", "<data>{\"ac\":1,\"c", True)
        self.check("<data>{\"zzzzzzzzzzzz\":1", "<data>{\"zzzzzzzzzzzy\":1", False)
        self.check("<data>{\"zzzzzzzzzzzz\":{\"a\":1", "<data>{\"zzzzzzzzzzzy\":{\"a\":1", False)
        self.check("<data>{\"a\":1,", "<data>{\"b\":1,", False)
        self.check(DEEP + "<", DEEP[3:] + "<", False)
        self.check(DEEP, DEEP[:-3], False)
        self.check(DEEP + "<d", DEEP[:-3] + "<d", False)

    def test_drawn_places(self):
        source = random.Random(2)
        starts = ["", "<p>", "<p", "<p a", "<p h", "<p a=\"", "<a href=\"/", "<a href=\"/?", "<data>", "<data>[1,",
                "<data>{\"ab\":1,\"",
                  "<data>[[{\"a\":[", DEEP, DEEP[3:] + "<", "<data>[" + "1," * 57, "<data>{\"yzz\":[1,{\"a\":1,\"yy"]
        texts = []
        for _ in range(300):
            text = source.choice(starts)
            for _ in range(source.randint(0, 9)):
                sign = source.choice("<>/\"=&~?;[]{},:-01abhrefdtz2 \\\n")
                if accepts(("same place", text + sign, text + sign), None):
                    text += sign
            texts.append(text)
        for _ in range(2500):
            one, other = source.choice(texts), source.choice(texts)
            claim, certificate = certify_place(one, other)
            self.assertIs(accepts(claim, certificate), True, (one, other))

    def test_what_is_no_text_or_leads_nowhere(self):
        wrong = [None, True, 1, (), ("<p>",), [], {}, b"", Odd(), Same()] + NOWHERE
        for one in wrong:
            for other in ("", "<p>", None, 5, "</p>"):
                self.assertIs(raised(InvalidText, certify_place, one, other).written, one)
            for first in ("", "<p>", "<data>"):
                self.assertIs(raised(InvalidText, certify_place, first, one).written, one)
                self.assertIs(raised(InvalidText, certify_place, other=one, one=first).written, one)


if __name__ == "__main__":
    unittest.main()
