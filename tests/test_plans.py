"""Points 2, 3, 4 and the section on plans: their form, what is made of templates, and the passes."""

import itertools
import random
import unittest

from shapekeep.errors import InvalidPass, InvalidPlan, MissingTemplate, NotALibrary
from shapekeep.library import Library
from shapekeep.plans import PASSES, count_nodes, drop, flat, fold, join, optimize, plan_of
from shapekeep.rendering import render
from tests.second import depth_of, nodes_of, run_plan
from tests.support import in_lists, raised, unchanged
from tests.templates import LibraryGrower
from tests.test_library import NO_NAMES, library_of

X, Y, Z = ("write", "x"), ("write", "y"), ("write", "z")
A, B = ("show", "text", "a"), ("show", "text", "b")
LONG = "\"" + "x" * 60 + "\""


class Odd:
    """An object of no kind that the program knows."""


class Same:
    """An object that says of itself that it equals anything."""

    def __eq__(self, other):
        return True


ODD = [None, True, 0, 1, "", "a", b"write", [], {}, {"a"}, Odd(), Same(), str]

NO_PLANS = ODD + ["write", ("write", "x"), [X], ((X,),), (X, None), (X, [X]), (X, ()), {"write": "x"}]

NO_NODES = ODD + [
    (), ("write",), ("write", None), ("write", 1), ("write", ("x",)), ("write", "x", "y"), ["write", "x"],
    ("Write", "x"), ("", "x"), (None, "x"), (Same(), "x"), ("write", Same()), ("write", b"x"), ("text", "x"),
    ("literal", "x"), (("write",), "x"),
    ("show",), ("show", "text"), ("show", "a"), ("show", "a", "text"), ("show", "text", "a", ()), ("show", "none", "a"),
    ("show", "Text", "a"), ("show", None, "a"), ("show", "text", ""), ("show", "text", "self"), ("show", "text", None),
    ("show", "text", " a"),
    ("show", "text", "{= a}"), ("show", ("text",), "a"), ("show", Same(), "a"), ("show", "text", Same()),
    ["show", "text", "a"], ("hole", "text", "a"), ("show", "text", ("a",)), ("show", "name", "a"),
    ("show", b"text", "a"), ("show", ["text"], "a"),
    ("if",), ("if", "a"), ("if", "a", ()), ("if", "a", (), (), ()), ("if", "", (), ()), ("if", "a b", (), ()),
    ("if", None, (), ()), ("if", "a", [], ()), ("if", "a", (), []), ("if", "a", X, ()), ("if", "a", (), X),
    ("if", "a", "x", ()), ("if", True, (), ()),
    ("if", "a", (), None), ("if", (), "a", ()), ["if", "a", (), ()],
    ("for",), ("for", "a", "b"), ("for", "a", "b", (), ()), ("for", "true", "b", ()), ("for", "self", "b", ()),
    ("for", "false", "b", ()), ("for", "A", "b", ()), ("for", "", "b", ()), ("for", None, "b", ()),
    ("for", "a", "", ()), ("for", "a", None, ()),
    ("for", "a", "b", []), ("for", "a", "b", None), ("for", "a", "b", X), ("for", "a", "self", ()),
    ("for", "a.b", "c", ()), ("for", "abcdefghijklm", "b", ()), ["for", "a", "b", ()],
    ("let",), ("let", "a", "b"), ("let", "a", "b", (), ()), ("let", "true", "b", ()), ("let", "self", "b", ()),
    ("let", "false", "b", ()), ("let", "a", "b c", ()), ("let", "a", "b", []), ("let", "a", 1, ()), ("let", 1, "b", ()),
    ("let", "a", "b", "x"),
    ("scope",), ("scope", ()), ("scope", (), (), ()), ("scope", [], ()), ("scope", None, ()), ("scope", {}, ()),
    ("scope", {"a": "b"}, ()), ("scope", (), []), ("scope", (), None), ("scope", (), X), ("scope", ("a", "b"), ()),
    ("scope", (("a",),), ()),
    ("scope", (("a", "b", "c"),), ()), ("scope", (["a", "b"],), ()), ("scope", (("A", "b"),), ()),
    ("scope", (("a", ""),), ()), ("scope", (("a", None),), ()), ("scope", (("b", "x"), ("a", "x")), ()),
    ("scope", (("a", "x"), ("a", "x")), ()),
    ("scope", (("true", "x"),), ()), ("scope", (("self", "x"),), ()), ("scope", (("a", "x"), ("false", "x")), ()),
    ("scope", (("", "x"),), ()), ("scope", ((None, "x"),), ()), ("scope", "", ()), ["scope", (), ()],
    ("scope", "a", ()),
    ("outer",), ("outer", (), ()), ("outer", []), ("outer", None), ("outer", X), ["outer", ()], ("use", "a", ()),
    ("wrap", "a", (), ()), ("slot",), ("data", 1), ("else",),
]

PLANS = [
    (), (X,), (("write", ""),), (X, X, ("write", "")), (A,), (("show", "attribute", "a"), ("show", "part", "a"),
    ("show", "query", "a"), ("show", "data", "a")), (("if", "true", (), ()),), (("if", "f", (X,), (A, Y)), Z),
    (("for", "x", "l", ()),), (("for", "l", "l", (("show", "text", "l"),)),), (("for", "x", "r.l", (X,)),),
    (("let", "a", "b", ()),), (("let", "x", "joined(a, b)", (("show", "text", "x"), A)),),
    (("scope", (), ()),), (("scope", (), (X,)),), (("scope", (("a", "b"), ("b", "\"x\"")), (A, B)),),
    (("scope", (), (("outer", ()),)),), (("scope", (("a", "b"),), (A, ("outer", (A, B)), ("write", ""))),),
    (("scope", (), (("scope", (), (("outer", (("outer", (A,)),)),)),)),),
    (("scope", (("b", "a"),), (("if", "true", (("outer", (A,)),), ()), ("let", "c", "1", (("outer", (A,)),)),
    ("outer", (A,)))),),
    (("scope", (), (("outer", (("scope", (), (("outer", ()),)),)),)),),
]


def nested(levels, inner=()):
    """Puts a plan into so many nodes of all kinds, one within the other."""
    heads = (("if", "f"), ("for", "x", "l"), ("let", "y", "a"), ("scope", (("a", "a"), ("f", "f"), ("l", "l"))),
            ("outer",))
    for level in range(levels):
        head = heads[(levels - 1 - level) % 5]
        inner = (head + (inner,) + ((),) * (head[0] == "if"),)
    return inner


class FormTest(unittest.TestCase):
    FUNCTIONS = (count_nodes, fold, join, flat, drop, optimize, lambda plan: optimize(plan, "fold"),
            lambda plan: optimize(plan, "nothing"))

    def refused(self, thing):
        for function in self.FUNCTIONS:
            self.assertIs(raised(InvalidPlan, function, thing).value, thing)

    def test_plans(self):
        for plan in PLANS:
            self.assertEqual(unchanged(self, plan, count_nodes), nodes_of(plan))
            self.assertEqual(count_nodes(plan=plan), nodes_of(plan))
            for function in (fold, join, flat, drop):
                unchanged(self, plan, function)
                self.assertEqual(function(plan=plan), function(plan))

    def test_no_plans(self):
        for thing in NO_PLANS + [in_lists(12, "x"), in_lists(300, ()), in_lists(300, ("write", "x"))]:
            self.refused(thing)

    def test_no_nodes(self):
        for node in NO_NODES:
            for thing in ((node,), (X, node), (node, A), (("if", "a", (node,), ()),), (("if", "a", (), (node,)),),
                    (("for", "a", "b", (node,)),), (("let", "a", "b", (X, node)),), (("scope", (), (node,)),),
                          (("scope", (), (("outer", (node,)),)),)):
                if node != ("outer", ()):
                    self.refused(thing)

    def test_outers_without_a_scope_around_them(self):
        outer = ("outer", (X,))
        for plan in ((outer,), (("if", "a", (outer,), ()),), (("for", "a", "b", (outer,)),),
                (("let", "a", "b", (outer,)),), (("scope", (), ()), outer), (("scope", (), (("outer", (outer,)),)),),
                     (("scope", (), (("outer", (("if", "a", (), (outer,)),)),)),),
                     (("scope", (), (("scope", (), (("outer", (("outer", (outer,)),)),)),)),),
                     (("scope", (), (outer, ("outer", (("outer", ()),)))),)):
            self.refused(plan)
        for plan in ((("scope", (), (outer, outer)),), (("scope", (), (("outer", (("scope", (), (outer,)),)),)),),
                (("scope", (), (("scope", (), (("outer", (outer,)), outer)), outer)),)):
            self.assertEqual(count_nodes(plan), nodes_of(plan))

    def test_nodes_within_one_another(self):
        for inner in ((), (X,), (X, X, X)):
            plan = nested(100 - bool(inner), inner)
            self.assertEqual((depth_of(plan), count_nodes(plan)), (100, 100 - bool(inner) + len(inner)))
            for function in (fold, join, flat, drop, lambda plan: optimize(plan, *PASSES)):
                self.assertLessEqual(count_nodes(function(plan)), count_nodes(plan))
            for more in (1, 2, 100, 190):
                self.refused(nested(100 - bool(inner) + more, inner))
        for kind in (("if", "a", ()), ("for", "a", "b"), ("let", "a", "b"), ("scope", ())):
            plan = (X,)
            for _ in range(99):
                plan = (kind + (plan,),)
            self.assertEqual(count_nodes(plan), 100)
            self.assertEqual(count_nodes((Y,) + plan * 3), 301)
            self.refused((kind + (plan,),))
            self.refused((X, kind + (plan,), X))


class PlanOfTest(unittest.TestCase):
    def test_plans_of_templates(self):
        library = library_of(
            ("empty", "{* x *}"), ("card", "<li a=\"{= t}\">{= t}</li>{slot}{if true}{slot}{end}", "{t: text}"),
            ("page", "<p>{**}{(}</p>{use empty}{use card t=a}{if f}{for x in l}{= x}{end}{else}"
             "{let y = sum(1, 2)}{wrap card t=\"q\"}{= y}!{end}{end}{end}", "{a: text, f: flag, l: [text]}"),
            ("frame", "{wrap card t=\"\"}{slot}{end}{slot}"),
            ("top", "{wrap frame}x{slot}{end}{use frame}{wrap card t=\"\"}{end}"))
        self.assertEqual(plan_of(library, "empty"), ())
        start, text, end = ("write", "<li a=\""), ("write", "\">"), ("write", "</li>")
        shows = (start, ("show", "attribute", "t"), text, ("show", "text", "t"), end)
        self.assertEqual(plan_of(library, "card"), shows + (("if", "true", (), ()),))
        self.assertEqual(plan_of(name="card", library=library), plan_of(library, "card"))

        def card(written, part=None):
            filling = () if part is None else (("outer", part),)
            return ("scope", (("t", written),), shows + filling + (("if", "true", filling, ()),))
        inner = (("show", "text", "y"), ("write", "!"))
        self.assertEqual(plan_of(library, "page"), (
            ("write", "<p>{</p>"), ("scope", (), ()), card("a"),
            ("if", "f", (("for", "x", "l", (("show", "text", "x"),)),),
            (("let", "y", "sum(1, 2)", (card("\"q\"", inner),)),))))
        self.assertEqual(plan_of(library, "frame"), (card("\"\"", ()),))
        filling = (("outer", (X,)),)
        self.assertEqual(plan_of(library, "top"), (("scope", (), (card("\"\"", filling),) + filling),
                ("scope", (), (card("\"\"", ()),)), card("\"\"", ())))

    def test_contexts(self):
        library = library_of(("a", "{= t}<p a=\"{= t}\" href=\"/{= t}?b={= t}\"></p><data>{= t}</data>", "{t: text}"))
        self.assertEqual([node[1] for node in plan_of(library, "a") if node[0] == "show"], ["text", "attribute", "part",
                "query", "data"])

    def test_plans_of_replaced_templates(self):
        library = library_of(("c", "x"), ("b", "{use c}{slot}"), ("a", "{wrap b}y{end}"))
        for body, node in (("z", Z), ("{= 1}", ("show", "text", "1"))):
            library.replace("c", body)
            self.assertEqual(plan_of(library, "b"), (("scope", (), (node,)),))
            self.assertEqual(plan_of(library, "a"), (("scope", (), (("scope", (), (node,)), ("outer", (Y,)))),))
        library.replace("b", "{slot}{slot}")
        self.assertEqual(plan_of(library, "a"), (("scope", (), (("outer", (Y,)),) * 2),))
        self.assertEqual(plan_of(library, "b"), ())

    def test_errors(self):
        for thing in ODD + [(), Library]:
            self.assertIs(raised(NotALibrary, plan_of, thing, 5).value, thing)
        for thing in NO_NAMES + ["b"]:
            self.assertIs(raised(MissingTemplate, plan_of, library_of(("a", "")), thing).called, thing)


class PassTest(unittest.TestCase):
    def check(self, function, *cases):
        for plan, wanted in cases:
            self.assertEqual(function(plan), wanted, plan)
            self.assertEqual(function((X, *plan, A)), function((X,)) + wanted + function((A,)) if function != join
                    else function((X, *wanted, A)))
            self.assertEqual(function((("for", "q", "l", (A, *plan, ("show", "text", "q"))),)),
                    (("for", "q", "l", (A, *wanted, ("show", "text", "q"))),))
            self.assertEqual(function((("scope", (("a", "a"),), (A, *plan)),)), (("scope", (("a", "a"),), (A, *wanted)),
                    ))
            self.assertEqual(function((("if", "f", plan, (A, *plan)),)), function((("if", "f", wanted, (A, *wanted)),)))
            self.assertEqual(function(wanted), wanted)
            self.assertLessEqual(count_nodes(wanted), count_nodes(plan))

    def test_fold_shows_and_ifs(self):
        self.check(fold, ((("show", "text", "\"<&\\\""),), (("write", "&lt;&amp;\\"),)),
                ((("show", "attribute", "\"<'\""),), (("write", "&lt;'"),)), ((("show", "part", "joined(1, \"/\")"),),
                (("write", "1~2f"),)),
                   ((("show", "query", "-12"),), (("write", "-12"),)), ((("show", "data", "\"<\""),),
                   (("write", "\"\\l\""),)), ((("show", "data", "true"),), (("write", "true"),)),
                   ((("show", "data", "equal(1, 2)"),), (("write", "false"),)),
                   ((("show", "text", "\"\""),), (("write", ""),)),
                   ((("show", "text", "joined(" + LONG + ", " + LONG + ")"),), (("write", "x" * 120),)),
                   ((("show", "text", "sum(999999999999999, 1)"),), (("write", "1" + "0" * 15),)),
                   ((("if", "true", (X, A), (Y,)),), (X, A)), ((("if", "false", (X,), (Y, B)),), (Y, B)),
                   ((("if", "less(1, 2)", (), (Y,)),), ()), ((("if", "not(true)", (X,), ()),), ()),
                   ((("if", "equal(\"a\", \"b\")", (X,), (A,)),), (A,)),
                   ((("if", "true", (("if", "false", (X,), (("show", "text", "1"), Y)),), ()),), (("write", "1"), Y)),
                   ((("if", "f", (("show", "text", "1"),), (("if", "true", (X,), ()),)),),
                   (("if", "f", (("write", "1"),), (X,)),)),
                   ((("let", "z", "a", (("show", "text", "sum(1)"),)),), (("let", "z", "a", (("write", "1"),)),)),
                   ((X, A, ("write", "")), (X, A, ("write", ""))), ((("for", "z", "l", ()),), (("for", "z", "l", ()),)),
                   ((("scope", (), (("outer", (("if", "true", (X,), ()),)),)),), (("scope", (), (("outer", (X,)),)),)))

    def test_fold_expressions(self):
        big = "sum(999999999999999, 1)"
        cases = [
            ("a", "a"), ("a.b.c", "a.b.c"), ("joined(a, joined(\"x\", 1))", "joined(a, \"x1\")"),
            ("joined(a, joined(\"x\", a), joined(1, 2))", "joined(a, joined(\"x\", a), \"12\")"),
            ("joined(a, \"x\", 1)", "joined(a, \"x\", 1)"),
            ("sum(n, sum(1, 2), sum(-1, -2, -3))", "sum(n, 3, -6)"), ("sum(n, sum(1, sum(2, sum(3, 4))))",
            "sum(n, 10)"), ("both(f, not(true))", "both(f, false)"), ("either(equal(1, 1), f)", "either(true, f)"),
            ("not(not(f))", "not(not(f))"),
            ("or_else(o, joined(\"a\", \"b\"))", "or_else(o, \"ab\")"), ("equal(n, sum(1, -1))", "equal(n, 0)"),
            ("less(sum(n, sum(1, 1)), size(l))", "less(sum(n, 2), size(l))"), ("sum(n, sum(-5, 3))", "sum(n, -2)"),
            # There is no expression that is just this value.
            (f"sum(n, {big})", f"sum(n, {big})"), (f"sum(n, sum({big}, sum(1, 1)))",
            "sum(n, sum(sum(999999999999999, 1), 2))"), ("sum(n, sum(-999999999999999, -1, sum(1, 2)))",
            "sum(n, -999999999999997)"),
            ("sum(n, sum(-999999999999999, -5, sum(1, 2)))", "sum(n, sum(-999999999999999, -5, 3))"),
            (f"equal(a, joined({LONG}, \"y\"))", f"equal(a, joined({LONG}, \"y\"))"),
            ("sum(n, sum(999999999999998, 1))", "sum(n, 999999999999999)"),
            (f"joined(a, joined({LONG}, joined(\"y\", \"z\")))", f"joined(a, joined({LONG}, \"yz\"))"),
            (f"joined(a, joined(\"{'x' * 59}\", \"y\"))", f"joined(a, \"{'x' * 59}y\")"),
            (f"both(f, equal(joined({LONG}, {LONG}), {LONG}))", "both(f, false)"),
            (f"less(n, sum({big}, -1))", "less(n, 999999999999999)"), (f"equal(a, joined({big}))",
            "equal(a, \"1000000000000000\")"), (f"joined(a, {big})", f"joined(a, {big})"), ("joined(a, joined(\"\"))",
            "joined(a, \"\")"),
        ]
        for written, wanted in cases:
            for plan, answer in (((("show", "data", written),), (("show", "data", wanted),)),
                    ((("if", written, (X,), (A,)),), (("if", wanted, (X,), (A,)),)), ((("let", "z", written, (X,)),),
                    (("let", "z", wanted, (X,)),)),
                                 ((("scope", (("k", written), ("m", written)), (X,)),),
                                 (("scope", (("k", wanted), ("m", wanted)), (X,)),)),
                                 ((("let", "z", written, (("let", "z", written, ()),)),),
                                 (("let", "z", wanted, (("let", "z", wanted, ()),)),))):
                self.assertEqual(fold(plan), answer)
                self.assertEqual(fold(answer), answer)
        for written, wanted in (("sum(1, 2)", "3"), ("\"a\"", "\"a\""), ("not(true)", "false"), (big, big),
                (f"joined({LONG}, joined(\"a\", 1))", f"joined({LONG}, \"a1\")"), ("joined(\"a\", \"b\")", "\"ab\""),
                ("less(2, 1)", "false"), ("-3", "-3")):
            self.assertEqual(fold((("let", "z", written, (X,)),)), (("let", "z", wanted, (X,)),))
            self.assertEqual(fold((("scope", (("k", written),), ()),)), (("scope", (("k", wanted),), ()),))

    def test_join(self):
        empty = ("write", "")
        self.check(join, ((X, Y), (("write", "xy"),)), ((X, Y, Z, A, X, Y), (("write", "xyz"), A, ("write", "xy"))),
                ((empty,), ()), ((empty, empty), ()), ((empty, X, empty, Y, empty), (("write", "xy"),)),
                ((A, empty, B), (A, B)),
                   ((A, empty, empty, X, empty), (A, X)), ((("if", "f", (empty,), (X, X)),),
                   (("if", "f", (), (("write", "xx"),)),)), ((("scope", (), (("outer", (X, empty, Y)), X, X)),),
                   (("scope", (), (("outer", (("write", "xy"),)), ("write", "xx"))),)),
                   ((X, ("if", "f", (), ()), Y), (X, ("if", "f", (), ()), Y)), ((("let", "z", "a", (X, Y)),),
                   (("let", "z", "a", (("write", "xy"),)),)), ((("for", "z", "l", (empty,)),),
                   (("for", "z", "l", ()),)))

    def test_flat(self):
        self.check(flat, ((("if", "f", (X, A), (X, A)),), (X, A)), ((("if", "f", (), ()),), ()),
                ((("if", "f", (X,), ()),), (("if", "f", (X,), ()),)), ((("if", "f", (), (X,)),),
                (("if", "f", (), (X,)),)), ((("for", "z", "l", ()),), ()),
                   ((("let", "z", "a", ()),), ()), ((("scope", (("a", "a"),), ()),), ()),
                   ((("scope", (), (("outer", ()),)),), ()), ((("scope", (("a", "b"),), (("outer", (A, X)),)),),
                   (A, X)),
                   ((("scope", (), (("outer", (A,)), X)),), (("scope", (), (("outer", (A,)), X)),)),
                   ((("scope", (), (("outer", (A,)), ("outer", (B,)))),),
                   (("scope", (), (("outer", (A,)), ("outer", (B,)))),)),
                   ((("scope", (), (("outer", ()), X)),), (("scope", (), (X,)),)),
                   ((("scope", (), (("outer", (A,)), ("if", "f", (), ()))),), (A,)),
                   ((("scope", (), (("if", "f", (("outer", (A,)),), (("outer", (A,)),)),)),), (A,)),
                   ((("for", "z", "l", (("let", "y", "z", (("if", "f", (), (("scope", (), ()),)),)),)),), ()),
                   ((("scope", (), (("scope", (), (("outer", (("outer", (A,)),)),)),)),), (A,)),
                   ((("scope", (), (("scope", (), (("outer", (X,)),)),)),), (("scope", (), (X,)),)),
                   ((("if", "f", (("if", "f", (X,), (X,)),), (X,)),), (X,)),
                   ((("if", "f", (("for", "z", "l", ()),), ()),), ()),
                   ((("if", "f", (X, Y), (("write", "xy"),)),), (("if", "f", (X, Y), (("write", "xy"),)),)),
                   ((("write", ""),), (("write", ""),)), ((("if", "true", (X,), (Y,)),), (("if", "true", (X,), (Y,)),)),
                   ((("let", "z", "a", (X,)),), (("let", "z", "a", (X,)),)),
                   ((("scope", (), (("outer", (("scope", (), (("outer", (A,)),)), B)),)),), (A, B)),
                   ((("let", "z", "a", (("scope", (), (("outer", (("show", "text", "z"),)),)),)),),
                   (("let", "z", "a", (("show", "text", "z"),)),)))

    def test_drop(self):
        z = ("show", "text", "z")
        self.check(drop, ((("let", "z", "a", (X, A)),), (X, A)), ((("let", "z", "a", (z,)),), (("let", "z", "a", (z,)),
                )), ((("let", "z", "a", ()),), ()), ((("let", "z", "z", (("let", "z", "z", (X,)),)),), (X,)),
                   ((("let", "z", "a", (("let", "z", "b", (z,)),)),), (("let", "z", "b", (z,)),)),
                   ((("let", "z", "a", (("let", "z", "z", (z,)),)),), (("let", "z", "a", (("let", "z", "z", (z,)),)),)),
                   ((("let", "z", "a", (("let", "z", "b", (X,)), z)),), (("let", "z", "a", (X, z)),)),
                   ((("let", "z", "a", (("let", "y", "z", (X,)),)),), (X,)),
                   ((("let", "z", "a", (("let", "y", "z.b", (("show", "text", "y"),)),)),),) * 2,
                   ((("let", "z", "a", (("for", "z", "l", (z,)),)),), (("for", "z", "l", (z,)),)),
                   ((("let", "z", "a", (("for", "z", "z", (z,)),)),), (("let", "z", "a", (("for", "z", "z", (z,)),)),)),
                   ((("for", "z", "l", (X,)),), (("for", "z", "l", (X,)),)),
                   ((("let", "z", "a", (("if", "z.f", (X,), ()),)),),) * 2,
                   ((("let", "z", "a", (("if", "f", (), (z,)),)),),) * 2,
                   ((("let", "z", "a", (("if", "f", (X,), (Y,)),)),), (("if", "f", (X,), (Y,)),)),
                   ((("let", "z", "a", (("show", "data", "size(z.a)"),)),),) * 2,
                   # Scopes and outers.
                   ((("scope", (("a", "b"), ("z", "a")), (X,)),), (("scope", (), (X,)),)),
                   ((("scope", (("a", "b"), ("z", "a")), (z,)),), (("scope", (("z", "a"),), (z,)),)),
                   ((("let", "z", "a", (("scope", (), (z,)),)),), (("scope", (), (z,)),)),
                   ((("let", "z", "a", (("scope", (("z", "b"),), (z,)),)),), (("scope", (("z", "b"),), (z,)),)),
                   ((("let", "z", "a", (("scope", (("y", "z"),), (X,)),)),), (("scope", (), (X,)),)),
                   ((("let", "z", "a", (("scope", (("y", "z"),), (("show", "text", "y"),)),)),),) * 2,
                   ((("let", "z", "a", (("scope", (), (("outer", (z,)),)),)),),) * 2,
                   ((("let", "z", "a", (("scope", (("z", "b"),), (("outer", (z,)),)),)),),
                   (("let", "z", "a", (("scope", (), (("outer", (z,)),)),)),)),
                   ((("scope", (("z", "b"),), (("outer", (z,)), z)),),) * 2,
                   ((("scope", (("z", "b"),), (("let", "z", "z", (("outer", (z,)),)),)),),
                   (("scope", (), (("outer", (z,)),)),)),
                   ((("scope", (("z", "b"),), (("let", "z", "z", (("outer", (X,)), z)),)),),) * 2,
                   ((("scope", (("z", "b"),), (("for", "z", "z", (z,)),)),),) * 2,
                   ((("scope", (("z", "b"),), (("for", "z", "l", (z, ("outer", (z,)))),)),),
                   (("scope", (), (("for", "z", "l", (z, ("outer", (z,)))),)),)),
                   ((("scope", (("z", "b"),), (("scope", (("y", "a"),), (("outer", (z,)),)),)),),
                   (("scope", (("z", "b"),), (("scope", (), (("outer", (z,)),)),)),)),
                   ((("scope", (("z", "b"),), (("scope", (("z", "z"),), (X,)),)),),
                   (("scope", (), (("scope", (), (X,)),)),)),
                   ((("scope", (("z", "b"),), (("scope", (("z", "a"),), (("outer", (("outer", (z,)),)),)),)),),
                   (("scope", (), (("scope", (), (("outer", (("outer", (z,)),)),)),)),)),
                   ((("let", "z", "a", (("scope", (), (("scope", (), (("outer", (("outer", (z,)),)),)),)),)),),) * 2,
                   ((("let", "z", "a", (("scope", (("z", "b"),), (("scope", (), (("outer", (z,)),)),)),)),),
                   (("scope", (("z", "b"),), (("scope", (), (("outer", (z,)),)),)),)),
                   ((("scope", (("z", "b"),), (("outer", (("scope", (("z", "a"),), (z,)),)),)),),
                    (("scope", (), (("outer", (("scope", (("z", "a"),), (z,)),)),)),)),
                   ((("scope", (), (("outer", (("let", "z", "a", (X,)),)),)),), (("scope", (), (("outer", (X,)),)),)),
                   ((("scope", (("z", "b"),), (("outer", (("scope", (("z", "a"),), (("outer", (z,)),)),)),)),),
                   (("scope", (), (("outer", (("scope", (), (("outer", (z,)),)),)),)),)))


class OptimizeTest(unittest.TestCase):
    def test_passes(self):
        self.assertEqual(PASSES, ("drop", "flat", "fold", "join"))
        functions = {"drop": drop, "flat": flat, "fold": fold, "join": join}
        library = LibraryGrower(random.Random(3)).grow(6)
        for plan in PLANS + [plan_of(library, name) for name in library.names]:
            self.assertEqual(optimize(plan), plan)
            for names in itertools.chain(itertools.permutations(PASSES), itertools.product(PASSES, repeat=2),
                    [PASSES * 2, ("fold",)]):
                wanted = plan
                for name in names:
                    wanted = functions[name](wanted)
                self.assertEqual(optimize(plan, *names), wanted)

    def test_no_passes(self):
        for thing in ODD + ["Fold", "fold ", "none", "text", "plan", ("fold",), ["fold"], fold]:
            self.assertEqual(raised(InvalidPass, optimize, (X,), thing).index, 0)
            self.assertEqual(raised(InvalidPass, optimize, (X,), "fold", "join", thing, "drop", thing).index, 2)
            self.assertIs(raised(InvalidPlan, optimize, thing, thing).value, thing)

    def test_all_orders_write_the_same(self):
        for seed in range(12):
            grower = LibraryGrower(random.Random(seed))
            library = grower.grow(5)
            for name in library.names:
                plan = plan_of(library, name)
                optimized = [optimize(plan, *names) for names in itertools.permutations(PASSES)] + [optimize(plan,
                        *PASSES * 3)]
                optimized += [optimize(plan, one, one) for one in PASSES]
                for found in optimized:
                    self.assertLessEqual(count_nodes(found), count_nodes(plan))
                for _ in range(2):
                    data = grower.data(name)
                    text = render(library, name, data)
                    self.assertEqual(run_plan(plan, data), text)
                    for found in optimized:
                        self.assertEqual(run_plan(found, data), text)

    def test_the_example(self):
        library = Library()
        library.define("row", "{t: text}", "<b>{= t}</b>")
        library.define("page", "", "{if less(1, 2)}{use row t=\"x\"}{else}no{end}")
        plan = plan_of(library, "page")
        row = (("write", "<b>"), ("show", "text", "t"), ("write", "</b>"))
        self.assertEqual(plan, (("if", "less(1, 2)", (("scope", (("t", "\"x\""),), row),), (("write", "no"),)),))
        self.assertEqual(optimize(plan, "fold", "join"), (("scope", (("t", "\"x\""),), row),))


if __name__ == "__main__":
    unittest.main()
