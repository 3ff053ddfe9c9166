"""Points 2 to 5, 7, 10 to 17 and the section on the checker: which claims are accepted, and which are not."""

import ast
import random
import unittest
from pathlib import Path

from shapekeep.certificates import templates_of
from shapekeep.checker import accepts
from shapekeep.errors import InvalidText, Misplaced
from shapekeep.escaping import same_place
from shapekeep.library import Library
from shapekeep.markup import is_tree
from shapekeep.rendering import origins, render, render_tree
from shapekeep.types import Type
from tests import test_define_errors, test_misplaced, test_sizes
from tests.claims import Bad, Odd, Same, changed, holds, library_from
from tests.growing import Grower, spoilt
from tests.support import in_lists, in_records, unchanged
from tests.templates import BodyGrower, LibraryGrower
from tests.test_bodies import BODIES, NO_TAGS
from tests.test_expressions import NO_WRITINGS, WRITINGS
from tests.test_markup import NO_ATTRIBUTES, NO_NODES, PAGES
from tests.test_places import GROUPS, NOWHERE
from tests.test_rendering import PAGES as RENDERED
from tests.test_rendering import define_all
from tests.test_trouble import CASES as TROUBLES
from tests.test_typed import SCOPE
from tests.test_typed import TROUBLES as NO_TYPES
from tests.test_typed import TYPED
from tests.test_types import NO_WRITINGS as NO_TYPE_WRITINGS
from tests.test_types import WRITINGS as TYPE_WRITINGS

PACKAGE = Path(__file__).resolve().parent.parent / "shapekeep"
ODD = [None, True, False, 0, 1, "", "accepted", (), ("accepted",), [], {}, {"a"}, Odd(), Same(), Bad(), str,
        b"accepted",
       ((),), ("same place",), ("same place", "", "", ""), ["same place", "", ""], ("Same place", "", ""),
       (Same(), "", ""), (Bad(), "", ""), (None, "", ""), (["same place"], "", ""), (("same place",), "", ""),
       ({}, "", ""), (b"same place", "", ""), in_lists(12, ""), in_records(12, ""), ("place", "", ""), ("", "", "")]


class ModuleTest(unittest.TestCase):
    def imports(self, name):
        tree = ast.parse((PACKAGE / f"{name}.py").read_text())
        return {node.module.removeprefix("shapekeep.") for node in ast.walk(tree) if isinstance(node, ast.ImportFrom)}

    def test_the_checker_stands_by_itself(self):
        own, waiting = set(), ["checker"]
        while waiting:
            name = waiting.pop()
            own.add(name)
            waiting += self.imports(name) - own - {"limits"}
        for path in PACKAGE.glob("*.py"):
            if path.stem not in own:
                self.assertFalse(self.imports(path.stem) & (own - {"checker"}), path)
        self.assertEqual({name for name in own if not name.startswith("proof_")}, {"checker"})
        self.assertEqual(self.imports("limits"), set())


class FormsTest(unittest.TestCase):
    """True claims of each form, and the same with single parts changed."""

    LIBRARY = Library()
    LIBRARY.define("u", "{a: number?, t: text}", "<b id=\"{= t}\">{if has(a)}{= or_else(a, 0)}{end}{slot}</b>")
    LIBRARY.define("p", "{f: flag, l: [{id: number, t: text} by id]}",
                   "{for x in l}{wrap u a=x.id t=x.t}{(}{* c *}{= x.id}{end}{end}{if f}<data>{= l}</data>{end}")
    TEMPLATES = templates_of(LIBRARY)
    DATA = {"f": True, "l": ({"id": 1, "t": "&"}, {"id": 0, "t": ""})}
    CLAIMS = [
        (("accepted", TEMPLATES, "p", LIBRARY["p"].contexts), None),
        (("accepted", TEMPLATES, "u", LIBRARY["u"].contexts), None),
        (("misplaced", TEMPLATES, "q", "{n: number}", "<p {= n}>", 3, "hole"), None),
        (("misplaced", (), "q", "", "</p>", 1, "markup"), None),
        (("page", TEMPLATES, "p", DATA, render(LIBRARY, "p", DATA)), origins(LIBRARY, "p", DATA)),
        (("shape", TEMPLATES, "p", DATA, render_tree(LIBRARY, "p", DATA)), None),
        (("patched", "abcd", "xbcyz"), ((0, 1, "x"), (3, 4, "y"), (4, 4, "z"))),
        (("patched", "", ""), ()),
        (("same place", "<data>tru", "<data>fals"), None),
        (("other place", "<p>", "<p>a<b>"), "</p>"),
    ]

    def check(self, claim, certificate):
        """Looks whether the answer is True or False, just as it should be."""
        self.assertIs(accepts(claim, certificate), holds(claim, certificate), (claim, certificate))

    def test_true_claims(self):
        for claim, certificate in self.CLAIMS:
            self.assertIs(unchanged(self, (claim, certificate), lambda both: accepts(*both)), True)
            self.assertIs(accepts(certificate=certificate, claim=claim), True)
            self.assertTrue(holds(claim, certificate))

    def test_certificates_that_are_changed(self):
        for claim, certificate in self.CLAIMS:
            for other in changed(certificate):
                self.check(claim, other)

    def test_claims_that_are_changed(self):
        for claim, certificate in self.CLAIMS:
            for at in range(1, len(claim)):
                for other in changed(claim[at]):
                    self.check(claim[:at] + (other,) + claim[at + 1:], certificate)

    def test_claims_of_no_form(self):
        for thing in ODD:
            for certificate in (None, "", (), Same(), Bad()):
                self.assertIs(accepts(thing, certificate), False)
        for claim, certificate in self.CLAIMS:
            for thing in (claim[:-1], claim + (None,), list(claim), (claim,), claim[1:], (claim[0].upper(),
                    ) + claim[1:],
                    (claim[0] + " ",) + claim[1:], ("patched",) + claim[1:], ("same place",) + claim[1:]):
                if thing != claim:
                    self.assertIs(accepts(thing, certificate), False)

    def test_deep_values(self):
        for thing in (in_lists(12, ""), in_records(12, ""), in_lists(12, 1), in_lists(300, ("text", "a"))):
            for claim, certificate in self.CLAIMS:
                for at in range(1, len(claim)):
                    self.assertIs(accepts(claim[:at] + (thing,) + claim[at + 1:], certificate), False)
                self.assertIs(accepts(claim, thing), False)

    def test_long_texts(self):
        for sign in ("[", "{", "<", "(", "not(", "{if f}", "[[", "<a>", "\"", "&", "~", "}", "a", "{a: ", "<data>[",
                "{wrap u}"):
            text = sign * 4000
            for claim, certificate in self.CLAIMS:
                for at in range(1, len(claim)):
                    self.assertIn(accepts(claim[:at] + (text,) + claim[at + 1:], certificate), (True, False))
                self.assertIn(accepts(claim, text), (True, False))
            for body in (text, "{= " + text + "}", "{if " + text + "}", "<data>" + text):
                for parameters in ("", text, "{a: " + text + "}"):
                    claim = ("accepted", (("x", parameters, body),), "x", ())
                    self.assertIs(accepts(claim, None), holds(claim, None))
            self.assertIn(accepts(("same place", text, text), None), (True, False))


class TemplatesTest(unittest.TestCase):
    """What a library takes, and what it does not take."""

    def check(self, templates, name, parameters, body):
        """Compares what the checker says of one more template with what a library does."""
        library = library_from(templates)
        reason = None
        try:
            contexts = library.define(name, parameters, body).contexts
        except Misplaced as error:
            reason = (error.position, error.reason)
        except Exception:
            reason = ()
        triple = (name, parameters, body)
        if reason is None:
            self.assertIs(accepts(("accepted", templates + (triple,), name, contexts), None), True, triple)
        # Whether the template is taken shows by what is claimed of another one behind it.
        self.assertIs(accepts(("accepted", templates + (triple, ("behind", "", "")), "behind", ()), None),
                reason is None and len(templates) < 39, triple)
        for position, word in {reason or (0, "markup"), (0, "hole"), (len(body), "end")}:
            self.assertIs(accepts(("misplaced", templates, name, parameters, body, position, word), None),
                    reason == (position, word), triple)
        return reason

    def test_bodies(self):
        parameters = "{a: text, b: number, c: flag, d: [text]?, e: [text]}"
        for body in [body for body, _, _ in BODIES] + ["{" + tag + "}" for tag in NO_TAGS] + ["{" + tag + "}x{end}"
                for tag in NO_TAGS]:
            self.check((), "x", parameters, body)
        for body in ("{if c}{else}" * 7 + "{end}" * 7, "{if c}{else}" * 8 + "{end}" * 8,
                "{for x in or_else(d, e)}{end}",
                "{for x in e}{end}", "{if c}" * 7 + "{end}" * 7, "{if c}" * 8 + "{end}" * 8, "{if c}{else}{else}{end}",
                        "{else}",
                "{end}",
                "{if c}", "{let x = a}{else}{end}", "a}", "{", "a{= a", "{if c}{end}{end}", "{if c}{else}",
                        "{(}{)}{**}"):
            self.check((), "x", parameters, body)

    def test_accepted_and_misplaced_bodies(self):
        templates = (("empty", "", ""), ("frame", "", "<div>{slot}</div>"))
        for body in test_misplaced.ACCEPTED:
            self.assertIsNone(self.check(templates, "x", test_misplaced.PARAMETERS, body))
        for body, position, reason in test_misplaced.CASES:
            self.assertEqual(self.check(templates, "x", test_misplaced.PARAMETERS, body), (position, reason))

    def test_tags_that_do_not_fit(self):
        templates = templates_of(test_define_errors.full_library())
        self.assertTrue(holds(("accepted", templates, "none", ()), None))
        small = tuple(triple for triple in templates if triple[0] in ("none", "two", "frame", "slotted", "rows",
                "maybe", "inner"))
        for body, _ in test_define_errors.NO_FIT:
            self.assertEqual(self.check(small, "x", test_define_errors.PARAMETERS, body), ())

    def test_templates_that_are_too_large(self):
        library = test_define_errors.full_library()
        templates = templates_of(library)
        for body, _ in test_define_errors.LARGE.values():
            self.assertEqual(self.check(templates, "x", "", body), ())
            self.assertFalse(accepts(("accepted", templates + (("x", "", body),), "none", ()), None))
        for body in ("{use high}", "{use many}" * 5 + "{= 1}" * 495, "{use tl}",
                "{if true}{use tm}{end}", "{wrap frame}{use high}{end}", "{wrap frame}" * 7 + "{end}" * 7):
            self.check(templates, "x", "", body)

    def test_sizes(self):
        slots = (("a", "", "<i>" * 10 + "{slot}" + "</i>" * 10), ("b", "", "{slot}" * 10), ("c", "", "{= 1}" * 500),
                ("d", "", "{slot}" * 800), ("e", "", "{wrap a}{slot}{end}"))
        for body in ("{wrap a}" + "<b>" * 20 + "</b>" * 20 + "{end}", "{wrap a}" + "<b>" * 21 + "</b>" * 21 + "{end}",
                "{wrap a}{wrap a}{wrap e}{end}{end}{end}", "{wrap a}{wrap a}{wrap e}<p></p>{end}{end}{end}",
                "<b>" * 20 + "{use e}" + "</b>" * 20, "<b>" * 21 + "{use e}" + "</b>" * 21,
                        "{use c}" * 5 + "{= 1}" * 495,
                "{use c}" * 5 + "{= 1}" * 496, "{wrap b}{wrap b}{wrap b}x{end}{end}{end}",
                "{wrap b}{wrap b}{wrap b}xy{= 1}{end}{end}{end}", "{wrap d}" * 7 + "{end}" * 7, "{use d}",
                "{wrap d}{wrap d}{end}{end}", "{wrap b}{wrap b}{wrap b}{use c}{end}{end}{end}"):
            self.check(slots, "x", "", body)
        tower = [("ta", "", "x")]
        for one, other in zip("abcdefghijklm", "bcdefghijklmn"):
            tower.append(("t" + other, "", "{if true}" * 7 + "{use t" + one + "}" + "{end}" * 7))
            self.check(tuple(tower), "x", "", "{if true}{if true}{use t" + other + "}{end}{end}")

    def test_depths_of_slots(self):
        templates = templates_of(test_sizes.PlansTest().tower())
        for body in ("{use si}", "{wrap si}{use te}{end}", "{wrap si}{if true}{use te}{end}{end}",
                "{wrap si}{wrap si}{end}{end}",
                "{wrap sc}" * 5 + "{use sb}" + "{end}" * 5, "{wrap sc}" * 5 + "{wrap sb}{end}" + "{end}" * 5,
                "{wrap sc}" * 5 + "{wrap sb}x{end}" + "{end}" * 5, "{wrap sa}{use tm}{end}",
                        "{use sa}{if true}{use tm}{end}",
                "{wrap sa}{if true}{use tm}{end}{end}", "{wrap sa}{wrap sa}{use tl}{end}{end}"):
            self.check(templates, "x", "", body)

    def test_levels_of_all_kinds_of_tags(self):
        templates = (("hole", "", "{= 1}{if true}{= 2}{end}{let x = 1}{end}{slot}"), ("box", "", "<b>{slot}</b>"))
        for many in (28, 29, 30):
            for inner in ("{use hole}", "{wrap hole}{= 1}{end}", "{wrap hole}<p>{= 1}</p>{end}", "{use box}",
                    "{wrap box}{use hole}{end}", "{wrap box}{wrap box}{end}{end}", "{wrap box}<p>{slot}</p>{end}"):
                self.check(templates, "x", "", "<a>" * many + inner + "</a>" * many)

    def test_numbers_of_templates(self):
        names = [one + other for one in "abcdefgh" for other in "abcdef"]
        forty = tuple((name, "", "x") for name in names[:40])
        self.assertIs(accepts(("accepted", forty, "aa", ()), None), True)
        self.assertIs(accepts(("accepted", forty + (("zz", "", "x"),), "aa", ()), None), False)
        # That there are too many would be found behind what is misplaced.
        self.assertIs(accepts(("misplaced", forty, "zz", "", "<", 1, "end"), None), True)
        self.assertIs(accepts(("misplaced", forty + (("zy", "", ""),), "zz", "", "<", 1, "end"), None), False)

    def test_orders(self):
        row, mid, page = ("row", "", "r"), ("mid", "", "{use row}{slot}"), ("page", "", "{wrap mid}x{end}")
        self.assertIs(accepts(("accepted", (row, mid, page), "page", ()), None), True)
        for templates in ((mid, row, page), (row, page, mid), (page, mid, row), (row, page), (mid, page), (row, row),
                (row, mid, row),
                (row, mid, page, row), (row, mid, page, ("new", "", "<")), ((*row, ""),), (row[:2],), ([*row],)):
            for name in ("row", "mid", "page"):
                self.assertIs(accepts(("accepted", templates, name, ()), None), False)

    def test_names_and_parameters(self):
        for name in ("a", "abcdefghijkl", "true", "self", "abcdefghijklm", "", "A", "a1", None, 1, ("a",), Odd(),
                Same(), b"a"):
            good = isinstance(name, str) and name in ("a", "abcdefghijkl", "true", "self")
            self.assertIs(accepts(("accepted", ((name, "", ""),), name, ()), None), good)
            self.assertIs(accepts(("misplaced", (), name, "", "<", 1, "end"), None), good)
        self.assertIs(accepts(("misplaced", (("a", "", ""),), "a", "", "<", 1, "end"), None), False)
        for writing, *_ in TYPE_WRITINGS:
            self.check((), "x", writing, "")
            self.check((), "x", "{a: " + writing + "}", "")
        for writing in list(NO_TYPE_WRITINGS) + ["{true: text}", "{a: text, self: flag}", "-", "{a: {true: text}}",
                " "]:
            if isinstance(writing, str):
                self.check((), "x", "{a: " + writing + "}", "")
                self.check((), "x", writing, "")
        for thing in test_define_errors.NO_PARAMETERS:
            self.assertIs(accepts(("accepted", (("x", thing, ""),), "x", ()), None), False)

    def test_expressions(self):
        parameters = "{" + ", ".join(f"{name}: {SCOPE[name][0]}" for name in sorted(SCOPE)) + "}"
        for written, *_ in TYPED + NO_TYPES + WRITINGS:
            self.check((), "x", parameters, "<data>{= " + written + "}</data>")
        many = ["not(f, f)", "size(l, l)", "has(ot, ot)", "equal(n, n, n)", "less(n, n, n)", "both(f)",
                "either(f, f, f)", "sum()",
                "joined()", "or_else(ot)", "or_else(ot, t, t)", "less(n)", "equal(t)", "sum(n)", "joined(t)",
                "not(" * 7 + "f" + ")" * 7, "not(" * 8 + "f" + ")" * 8, "\"" + "x" * 60 + "\"", "\"" + "x" * 61 + "\"",
                "9" * 15, "9" * 16, "-" + "9" * 15, "-" + "9" * 16, "007", "-0", "0", "-5"]
        for written in NO_WRITINGS + many:
            self.check((), "x", parameters, "<data>{= " + written + "}</data>")

    def test_grown_bodies(self):
        for seed in range(300):
            grower = BodyGrower(random.Random(seed))
            body = grower.body()
            self.check((("a", "{b: text}", "{slot}"),), "x", "{a: text, b: {c: [text]}, c: flag}", body)
            self.check((), "x", "{a: text}", grower.spoilt(body))

    def test_spoilt_bodies(self):
        words = ["{", "}", " ", "{end}", "{else}", "{if f}", "<", "</p>", "\"", "<p>", "{slot}", "{= t}", "&",
                "<data>", "a", "/"]
        seen = set()
        for seed in range(30):
            grower = LibraryGrower(random.Random(seed))
            library = grower.grow(4)
            templates = templates_of(library)
            for name in library.names:
                for _ in range(4):
                    body = spoilt(grower.random, library[name].body, words)
                    parameters = "" if library[name].parameters is None else str(library[name].parameters)
                    reason = self.check(templates, "new", parameters, body)
                    seen.add(reason and reason[1])
        self.assertLessEqual({None, (), "markup", "end"}, seen)


class PagesTest(unittest.TestCase):
    def check(self, library, name, data):
        templates = templates_of(library)
        text, triples, tree = render(library, name, data), origins(library, name, data), render_tree(library, name,
                data)
        self.assertIs(accepts(("page", templates, name, data, text), triples), True)
        self.assertIs(accepts(("shape", templates, name, data, tree), None), True)
        self.assertIs(accepts(("page", templates, name, data, text + "x"), triples), False)
        self.assertIs(accepts(("shape", templates, name, data, tree + (("data", 5),)), None), False)
        for at, (piece, called, position) in enumerate(triples):
            for others in (((piece[:1], called, position), (piece[1:], called, position)),
                    (("", called, position), (piece, called, position)), (), ((piece, called, position + 1),),
                    ((piece, name + "x", position),), ((piece, called, True),), ([piece, called, position],),
                    ((piece + "x", called, position),)):
                if others != ((piece, called, position),):
                    self.assertIs(accepts(("page", templates, name, data, text),
                            triples[:at] + others + triples[at + 1:]), False)
        self.assertIs(accepts(("page", templates, name, data, text), ((text, name, 0),)), triples == ((text, name, 0),))

    def test_pages_of_all_kinds(self):
        for templates, data, _ in RENDERED:
            self.check(*define_all(templates), data)

    def test_grown_pages(self):
        for seed in range(25):
            grower = LibraryGrower(random.Random(seed))
            library = grower.grow(4)
            name = library.names[-1]
            data = grower.data(name)
            if len(render(library, name, data)) < 400:
                self.check(library, name, data)

    def test_true_is_not_one(self):
        library = Library()
        library.define("a", "", "x{= 1}")
        templates = templates_of(library)
        self.assertIs(accepts(("page", templates, "a", {}, "x1"), (("x", "a", 0), ("1", "a", 1))), True)
        self.assertIs(accepts(("page", templates, "a", {}, "x1"), (("x", "a", False), ("1", "a", 1))), False)
        self.assertIs(accepts(("page", templates, "a", {}, "x1"), (("x", "a", 0), ("1", "a", True))), False)
        self.assertIs(accepts(("accepted", templates, "a", ((True, "text"),)), None), False)
        library.define("b", "{v: [flag]}", "<data>{= v}</data>")
        templates = templates_of(library)
        self.assertIs(accepts(("shape", templates, "b", {"v": (True, False)}, (("data", (True, False)),)), None), True)
        self.assertIs(accepts(("shape", templates, "b", {"v": (True, False)}, (("data", (1, False)),)), None), False)
        self.assertIs(accepts(("shape", templates, "b", {"v": (1, False)}, (("data", (1, False)),)), None), False)

    def test_data(self):
        for written, values, troubles in TROUBLES:
            try:
                Type.read("{v: " + written + "}")
            except InvalidText:
                continue
            templates = (("a", "{v: " + written + "}", "x"),)
            for value, good in [(value, True) for value in values] + [(value, False) for value, _ in troubles]:
                claim = ("page", templates, "a", {"v": value}, "x")
                self.assertIs(accepts(claim, (("x", "a", 0),)), good, claim)
                self.assertIs(accepts(("shape", templates, "a", {"v": value}, (("text", "x"),)), None), good)
        none = (("a", "", "x"),)
        for data in ({}, None, (), [], {"a": 1}, "", 0, False, Odd(), Same(), {1: 2}, set()):
            good = isinstance(data, dict) and not data
            self.assertIs(accepts(("page", none, "a", data, "x"), (("x", "a", 0),)), good)
            self.assertIs(accepts(("shape", none, "a", data, (("text", "x"),)), None), good)

    def test_values_of_expressions(self):
        library = Library()
        parameters = "{" + ", ".join(f"{name}: {SCOPE[name][0]}" for name in sorted(SCOPE)) + "}"
        for written, _ in TYPED:
            library.define("a", parameters, "<data>{= " + written + "}</data>")
            for at in range(3):
                data = {name: SCOPE[name][1][at % len(SCOPE[name][1])] for name in SCOPE}
                self.check(library, "a", data)
            library.remove("a")

    def test_values_of_functions(self):
        for written in ("either(false, true)", "either(true, false)", "either(false, false)", "both(true, false)",
                "both(false, true)", "both(true, true)", "not(true)", "not(false)", "equal(1, 2)",
                        "equal(\"a\", \"a\")",
                "equal(true, false)", "less(1, 2)", "less(2, 1)", "less(1, 1)", "sum(1, 2, -4)",
                        "joined(1, \"-\", \"x\", -2)",
                "size(l)", "has(o)", "has(q)", "or_else(o, \"y\")", "or_else(q, \"y\")"):
            library = Library()
            library.define("a", "{l: [text], o: text?, q: text?}", "<data>{= " + written + "}</data>")
            self.check(library, "a", {"l": ("", ""), "o": None, "q": ""})

    def test_trees(self):
        for tree, text in PAGES:
            body = text.replace("{", "{(").replace("}", "{)}").replace("{(", "{(}")
            self.assertIs(accepts(("shape", (("a", "", body),), "a", {}, tree), None), True)
            self.assertIs(accepts(("shape", (("a", "", body),), "a", {}, list(tree)), None), False)
        for node in NO_NODES:
            if not (isinstance(node, tuple) and is_tree((node,))):
                self.assertIs(accepts(("shape", (("a", "", "x"),), "a", {}, (node,)), None), False)
                self.assertIs(accepts(("shape", (("a", "", "<p></p>"),), "a", {}, (("element", "p", (), (node,)),)),
                        None), False)
        for attribute in NO_ATTRIBUTES:
            self.assertIs(accepts(("shape", (("a", "", "<p></p>"),), "a", {}, (("element", "p", (attribute,), ()),)),
                    None), False)
        for tree in ((("text", "a"), ("text", "b")), (("text", "ab"), ("text", "")), (("text", ""), ("text", "ab"))):
            self.assertIs(accepts(("shape", (("a", "", "ab"),), "a", {}, tree), None), False)

    def test_numbers_are_no_texts(self):
        def element(*attributes):
            return ("element", "p", attributes, ())

        for body, tree, other in (
                ("5", (("text", "5"),), (("text", 5),)), ("True", (("text", "True"),), (("text", True),)),
                ("<p a=\"5\"></p>", (element(("a", "5")),), (element(("a", 5)),)),
                ("<p href=\"/5\"></p>", (element(("href", (("5",), ()))),), (element(("href", ((5,), ()))),)),
                ("<p href=\"/5\"></p>", (element(("href", (("5",), ()))),), (element(("href", ("5", ()))),)),
                ("<p href=\"/5?a=6\"></p>", (element(("href", (("5",), (("a", "6"),)))),),
                 (element(("href", (("5",), (("a", 6),)))),)),
                ("<data>\"5\"</data>", (("data", "5"),), (("data", 5),)), ("<data>5</data>", (("data", 5),),
                        (("data", "5"),)),
                ("<data>null</data>", (("data", None),), (("data", "null"),)),
                ("<data>1</data>", (("data", 1),), (("data", True),)),
                ("<data>true</data>", (("data", True),), (("data", 1),)),
                ("<data>[1]</data>", (("data", (1,)),), (("data", [1]),)),
                ("<data>[1,2]</data>", (("data", (1, 2)),), (("data", ((1, 2),)),))):
            templates = (("x", "", body),)
            self.assertIs(accepts(("shape", templates, "x", {}, tree), None), True)
            self.assertIs(accepts(("shape", templates, "x", {}, other), None), False)

    def test_grown_trees(self):
        grower = Grower(random.Random(5))
        for _ in range(150):
            value = grower.value(5)
            library = Library()
            library.define("a", "", "x")
            self.assertIs(accepts(("shape", templates_of(library), "a", {}, (("data", value),)), None), False)


class PatchesTest(unittest.TestCase):
    def test_patches(self):
        for patches, new, good in (
                ((), "abc", True), ((), "abd", False), (((0, 3, ""),), "", True), (((3, 3, "d"),), "abcd", True),
                (((1, 1, "x"), (1, 1, "y")), "axybc", True), (((1, 1, ""),), "abc", False), (((0, 0, ""),), "abc",
                        False),
                (((0, 1, "a"),), "abc", True), (((0, 4, ""),), "", False), (((-1, 0, ""),), "abc", False),
                (((1, 0, ""),), "abc", False), (((0, 2, "x"), (1, 3, "y")), "xy", False), (((2, 3, ""), (0, 1, "")),
                        "b", False),
                (((False, 1, ""),), "bc", False), (((0, True, ""),), "bc", False), (((0, 1, None),), "bc", False),
                ([(0, 1, "")], "bc", False), (([0, 1, ""],), "bc", False), (((0, 1),), "bc", False), (None, "abc",
                        False),
                (((0, 1, "", ""),), "bc", False), (((0, 1, ""),), None, False), (((0, 1, b""),), "bc", False)):
            self.assertIs(accepts(("patched", "abc", new), patches), good, patches)
        for old in (None, 5, ("a",), b"abc", ["a"], Same()):
            self.assertIs(accepts(("patched", old, "abc"), ()), False)
            self.assertIs(accepts(("patched", "abc", old), ()), False)
            self.assertIs(accepts(("patched", old, old), ()), False)


class PlacesTest(unittest.TestCase):
    def test_same_places(self):
        for at, group in enumerate(GROUPS):
            for one in group:
                for other_group in GROUPS[:at + 1]:
                    for other in other_group:
                        good = group is other_group
                        self.assertIs(accepts(("same place", one, other), None), good, (one, other))
                        self.assertIs(accepts(("same place", other, one), None), good)
                self.assertIs(accepts(("same place", one, one), ""), False)

    def test_texts_that_lead_nowhere(self):
        for text in NOWHERE:
            for other in ("", "<p>", text, "<data>"):
                for word in ("", "</p>", None):
                    for form in ("same place", "other place"):
                        self.assertIs(accepts((form, text, other), word), False)
                        self.assertIs(accepts((form, other, text), word), False)

    def test_words(self):
        for one, other, word, good in (
                ("<p>", "<q>", "</p>", True), ("<p>", "<q>", "</q>", True), ("<p>", "<q>", "</r>", False),
                ("<p>", "<q>", "", False), ("<p>", "", "", True), ("", "<p>", "", True), ("<p>", "<p>", "</p>", False),
                ("<p>", "<p>a", "</p>", False), ("<p>", "<p>a<b>", "</b></p>", True), ("<p>", "<p>a<b>", "</b>", False),
                ("<p a", "<p h", "ref=\"\"></p>", True), ("<p a", "<p h", "=\"\"></p>", False),
                ("<data>[1", "<data>[1,1", "]</data>", False), ("<data>[1", "<data>[1,1", ",0" * 59 + "]</data>",
                        True)):
            self.assertIs(accepts(("other place", one, other), word), good, (one, other, word))
            self.assertIs(accepts(("other place", other, one), word), good)
        for word in (None, 5, ("</p>",), ["</p>"], b"</p>", Odd(), Same(), Bad(), {}):
            self.assertIs(accepts(("other place", "<p>", "<q>"), word), False)
        for thing in (None, 5, ("<p>",), b"<p>", Odd(), Same(), Bad(), []):
            for form in ("same place", "other place"):
                for word in (None, "", "</p>"):
                    self.assertIs(accepts((form, thing, "<p>"), word), False)
                    self.assertIs(accepts((form, "<p>", thing), word), False)
                    self.assertIs(accepts((form, thing, thing), word), False)

    def test_grown_texts(self):
        source = random.Random(3)
        starts = ["", "<p>", "<p", "<p a=\"", "<a href=\"/", "<a href=\"/?b=", "<data>", "<data>[1,",
                "<data>{\"ab\":1,\"", "<a>" * 30]
        texts = []
        for _ in range(400):
            text = source.choice(starts)
            for _ in range(source.randint(0, 6)):
                sign = source.choice("<>/\"=&~?;[]{},:-01abhrefdtz \\\n")
                if accepts(("same place", text + sign, text + sign), None):
                    text += sign
            texts.append(text)
        for _ in range(8000):
            one, other = source.choice(texts), source.choice(texts)
            self.assertIs(accepts(("same place", one, other), None), same_place(one, other), (one, other))


if __name__ == "__main__":
    unittest.main()
