"""Points 3, 4, 13 and 2: the types and the values of expressions."""

import itertools
import unittest

from shapekeep.errors import TypeTrouble
from shapekeep.expressions import Expression
from shapekeep.types import Type, same
from tests.support import raised, unchanged

# Variables of all kinds of types, with values of them.
SCOPE = {
    "t": ("text", ["", "a", "7"]), "n": ("number", [0, 7, -3]), "f": ("flag", [True, False]),
    "ot": ("text?", [None, "", "b"]), "on": ("number?", [None, 0]), "of": ("flag?", [None, False]),
    "l": ("[text]", [(), ("a", "b")]),
    "m": ("[number]", [(), (1,)]), "ol": ("[text]?", [None, ("a",)]), "k": ("[{a: number, b: text} by a]",
    [(), ({"a": 1, "b": ""},)]),
    "r": ("{a: text, b: {a: number?, c: [flag]}, true: flag}",
    [{"a": "x", "b": {"a": None, "c": (True,)}, "true": True}]),
    "rr": ("{a: text}?", [None, {"a": ""}]), "s": ("{a: text}", [{"a": "y"}]), "os": ("{a: {b: text}?}",
    [{"a": None}, {"a": {"b": ""}}]),
}
TYPES = {name: Type.read(text) for name, (text, _) in SCOPE.items()}

# Expressions with their types.
TYPED = [
    ("t", "text"), ("n", "number"), ("f", "flag"), ("ot", "text?"), ("l", "[text]"),
    ("k", "[{a: number, b: text} by a]"), ("rr", "{a: text}?"),
    ("r", "{a: text, b: {a: number?, c: [flag]}, true: flag}"), ("r.a", "text"), ("r.b", "{a: number?, c: [flag]}"),
    ("r.b.a", "number?"), ("r.b.c", "[flag]"),
    ("r.true", "flag"), ("os.a", "{b: text}?"),
    ("\"a\"", "text"), ("\"\"", "text"), ("1", "number"), ("-5", "number"), ("true", "flag"), ("false", "flag"),
    ("equal(t, r.a)", "flag"), ("equal(n, 1)", "flag"), ("equal(f, true)", "flag"),
    ("equal(equal(1, 2), equal(t, \"\"))", "flag"),
    ("less(n, 1)", "flag"), ("not(f)", "flag"), ("both(f, false)", "flag"), ("either(r.true, f)", "flag"),
    ("sum(n)", "number"), ("sum(n, n, 1, size(l))", "number"), ("joined(t)", "text"), ("joined(n)", "text"),
    ("joined(t, n, r.a, 5, \"a\")", "text"),
    ("size(l)", "number"), ("size(k)", "number"), ("size(r.b.c)", "number"), ("has(ot)", "flag"), ("has(of)", "flag"),
    ("has(ol)", "flag"), ("has(rr)", "flag"),
    ("has(r.b.a)", "flag"), ("has(os.a)", "flag"),
    ("or_else(ot, t)", "text"), ("or_else(ot, \"x\")", "text"), ("or_else(on, 1)", "number"),
    ("or_else(of, f)", "flag"), ("or_else(ol, l)", "[text]"),
    ("or_else(rr, s)", "{a: text}"), ("or_else(r.b.a, n)", "number"), ("size(or_else(ol, l))", "number"),
    ("not(both(less(n, or_else(on, 0)), either(f, has(ot))))", "flag"),
]

# Expressions without a type, and the parts that are the reason.
TROUBLES = [
    ("x", "x"), ("x.a", "x.a"), ("t.a", "t.a"), ("n.a", "n.a"), ("l.a", "l.a"), ("k.a", "k.a"), ("rr.a", "rr.a"),
    ("r.c", "r.c"), ("r.b.b", "r.b.b"), ("r.a.a", "r.a.a"),
    ("os.a.b", "os.a.b"), ("r.b.a.a", "r.b.a.a"), ("ot.a", "ot.a"), ("tt", "tt"), ("r.aa", "r.aa"),
    ("r.true.false", "r.true.false"), ("s.b", "s.b"), ("or.a", "or.a"),
    ("equal(t, n)", "equal(t, n)"), ("equal(n, f)", "equal(n, f)"), ("equal(1, true)", "equal(1, true)"),
    ("equal(t, ot)", "equal(t, ot)"), ("equal(ot, ot)", "equal(ot, ot)"),
    ("equal(l, l)", "equal(l, l)"), ("equal(s, s)", "equal(s, s)"), ("equal(k, k)", "equal(k, k)"),
    ("equal(\"1\", 1)", "equal(\"1\", 1)"), ("equal(rr, rr)", "equal(rr, rr)"),
    ("less(t, t)", "less(t, t)"), ("less(n, t)", "less(n, t)"), ("less(f, n)", "less(f, n)"),
    ("less(n, on)", "less(n, on)"), ("less(1, false)", "less(1, false)"),
    ("not(n)", "not(n)"), ("not(of)", "not(of)"), ("not(t)", "not(t)"), ("not(0)", "not(0)"),
    ("both(f, n)", "both(f, n)"), ("both(1, f)", "both(1, f)"), ("both(f, of)", "both(f, of)"),
    ("either(f, t)", "either(f, t)"), ("either(l, f)", "either(l, f)"), ("sum(t)", "sum(t)"), ("sum(f)", "sum(f)"),
    ("sum(n, n, t)", "sum(n, n, t)"), ("sum(n, on)", "sum(n, on)"),
    ("sum(true)", "sum(true)"), ("sum(l)", "sum(l)"), ("joined(f)", "joined(f)"), ("joined(t, ot)", "joined(t, ot)"),
    ("joined(n, t, true)", "joined(n, t, true)"), ("joined(l)", "joined(l)"),
    ("joined(on)", "joined(on)"), ("joined(s)", "joined(s)"), ("size(t)", "size(t)"), ("size(s)", "size(s)"),
    ("size(ol)", "size(ol)"), ("size(n)", "size(n)"), ("size(r)", "size(r)"),
    ("size(\"a\")", "size(\"a\")"), ("has(t)", "has(t)"), ("has(l)", "has(l)"), ("has(s)", "has(s)"),
    ("has(true)", "has(true)"), ("has(has(ot))", "has(has(ot))"),
    ("or_else(t, t)", "or_else(t, t)"), ("or_else(ot, ot)", "or_else(ot, ot)"), ("or_else(ot, n)", "or_else(ot, n)"),
    ("or_else(on, t)", "or_else(on, t)"), ("or_else(ol, m)", "or_else(ol, m)"),
    ("or_else(rr, r)", "or_else(rr, r)"), ("or_else(of, 1)", "or_else(of, 1)"), ("or_else(t, ot)", "or_else(t, ot)"),
    ("or_else(l, l)", "or_else(l, l)"),
    # The first part in the order in which the parts end.
    ("sum(1, size(t), f)", "size(t)"), ("sum(f, size(t))", "size(t)"), ("sum(x, size(t))", "x"),
    ("sum(size(t), x)", "size(t)"), ("sum(size(x), y)", "x"), ("equal(not(n), not(t))", "not(n)"),
    ("both(not(f), not(n))", "not(n)"), ("not(not(not(n)))", "not(n)"), ("joined(sum(t), x, f)", "sum(t)"),
    ("joined(t, sum(n, x.a), y)", "x.a"), ("or_else(has(t), x)", "has(t)"),
    ("either(both(f, less(n, n)), less(t, x))", "x"), ("either(both(f, sum(n, n)), less(t, x))", "both(f, sum(n, n))"),
    ("size(or_else(ol, m))", "or_else(ol, m)"),
    ("joined(\"a, b\", joined(t, f), r.x)", "joined(t, f)"), ("equal(r.x, r.y)", "r.x"),
    ("not(equal(t, n))", "equal(t, n)"),
]

# Expressions, data and values.
VALUES = [
    ("a", {"a": "x"}, "x"), ("a", {"a": None}, None), ("a", {"a": (1, 2)}, (1, 2)),
    ("a.b.c", {"a": {"b": {"c": 5, "d": 6}, "c": 7}}, 5), ("a.true", {"a": {"true": False}}, False),
    ("\"x y, z\"", {}, "x y, z"), ("\"\"", {}, ""), ("\"\\n\"", {}, "\\n"), ("\"&<>'\"", {}, "&<>'"), ("0", {}, 0),
    ("12", {}, 12), ("-305", {}, -305), ("true", {}, True), ("false", {}, False),
    ("equal(a, b)", {"a": "x", "b": "x"}, True), ("equal(a, b)", {"a": "x", "b": "X"}, False), ("equal(a, 5)", {"a": 5},
    True), ("equal(a, 5)", {"a": -5}, False),
    ("equal(a, false)", {"a": False}, True), ("equal(a, false)", {"a": True}, False), ("equal(\"\", a)", {"a": ""},
    True), ("equal(10, 9)", {}, False),
    ("less(a, b)", {"a": 1, "b": 2}, True), ("less(a, b)", {"a": 2, "b": 2}, False), ("less(a, b)", {"a": 3, "b": 2},
    False), ("less(-10, -9)", {}, True), ("less(9, 10)", {}, True),
    ("not(a)", {"a": True}, False), ("not(a)", {"a": False}, True),
    ("sum(a)", {"a": 4}, 4), ("sum(a, -1, a)", {"a": 4}, 7), ("sum(0)", {}, 0),
    ("sum(a, b)", {"a": 10 ** 29, "b": 10 ** 29}, 2 * 10 ** 29), ("sum(a, 1)", {"a": -1}, 0),
    ("sum(1, 2, 3, 4, 5, 6)", {}, 21), ("sum(999999999999999, 1)", {}, 10 ** 15),
    ("joined(a)", {"a": "x"}, "x"), ("joined(a)", {"a": 5}, "5"), ("joined(a, b, \"-\", -7, a)", {"a": "x\n", "b": 0},
    "x\n0--7x\n"), ("joined(a, a)", {"a": ""}, ""),
    ("joined(a, b)", {"a": "x" * 5000, "b": 10 ** 29}, "x" * 5000 + str(10 ** 29)), ("joined(1, 2)", {}, "12"),
    ("joined(\"a\", \"b\", \"c\", \"d\")", {}, "abcd"),
    ("size(a)", {"a": ()}, 0), ("size(a)", {"a": (1, 1, 1)}, 3), ("size(a)", {"a": ("",) * 60}, 60),
    ("size(a.b)", {"a": {"b": ({"c": 1},)}}, 1),
    ("has(a)", {"a": None}, False), ("has(a)", {"a": ""}, True), ("has(a)", {"a": 0}, True),
    ("has(a)", {"a": False}, True), ("has(a)", {"a": ()}, True), ("has(a.b)", {"a": {"b": None}}, False),
    ("or_else(a, b)", {"a": None, "b": "y"}, "y"), ("or_else(a, b)", {"a": "x", "b": "y"}, "x"),
    ("or_else(a, b)", {"a": "", "b": "y"}, ""), ("or_else(a, 5)", {"a": 0}, 0),
    ("or_else(a, true)", {"a": False}, False), ("or_else(a, b)", {"a": (), "b": (1,)}, ()),
    ("or_else(a, b)", {"a": None, "b": {"c": 1}}, {"c": 1}),
    ("joined(or_else(a.name, \"nobody\"), \" \", size(b))", {"b": (True, False), "a": {"name": None}}, "nobody 2"),
    ("not(both(less(a, 3), either(b, equal(c, \"x\"))))", {"a": 2, "b": False, "c": "x"}, False),
]


class TypedTest(unittest.TestCase):
    def test_types(self):
        for text, wanted in TYPED:
            found = Expression.read(text).typed(**TYPES)
            self.assertIs(type(found), Type)
            self.assertEqual(str(found), wanted, text)

    def test_only_its_own_variables_are_needed(self):
        for text, wanted in TYPED:
            expression = Expression.read(text)
            scope = {name: TYPES[name] for name in expression.variables}
            self.assertEqual(str(expression.typed(**scope)), wanted)
            for name in scope:
                self.assertEqual(raised(TypeTrouble, expression.typed, **{other: TYPES[other] for other in scope
                        if other != name}).part.split(".")[0], name)

    def test_troubles(self):
        for text, part in TROUBLES:
            self.assertEqual(raised(TypeTrouble, Expression.read(text).typed, **TYPES).part, part, text)

    def test_the_words_of_parts_are_those_of_the_writing(self):
        for text, _ in TROUBLES:
            self.assertIn(raised(TypeTrouble, Expression.read(text).typed, **TYPES).part, text)

    def test_functions_with_arguments_of_all_types(self):
        plain = ("text", "number", "flag")
        rules = {
            "equal": lambda one, other: "flag" if one == other and one in plain else None,
            "less": lambda one, other: "flag" if (one, other) == ("number", "number") else None,
            "both": lambda one, other: "flag" if (one, other) == ("flag", "flag") else None,
            "either": lambda one, other: "flag" if (one, other) == ("flag", "flag") else None,
            "or_else": lambda one, other: other if one == other + "?" else None,
            "sum": lambda *all_of: "number" if set(all_of) == {"number"} else None,
            "joined": lambda *all_of: "text" if set(all_of) <= {"text", "number"} else None,
            "not": lambda one: "flag" if one == "flag" else None,
            "size": lambda one: "number" if one.startswith("[") and not one.endswith("?") else None,
            "has": lambda one: "flag" if one.endswith("?") else None,
        }
        for word, rule in rules.items():
            for many in {"not": [1], "size": [1], "has": [1], "sum": [1, 2, 3], "joined": [1, 2, 3]}.get(word, [2]):
                for names in itertools.product(SCOPE, repeat=many):
                    text = f"{word}({', '.join(names)})"
                    wanted = rule(*[SCOPE[name][0] for name in names])
                    if wanted is None:
                        self.assertEqual(raised(TypeTrouble, Expression.read(text).typed, **TYPES).part, text)
                    else:
                        self.assertEqual(str(Expression.read(text).typed(**TYPES)), wanted, text)

    def test_types_are_compared_by_their_writings(self):
        scope = {"a": Type.read("{x: text, y: [number]}?"), "b": Type.read("{x: text, y: [number]}"),
                "c": Type.read("{x: text, y: [number?]}")}
        self.assertEqual(Expression.read("or_else(a, b)").typed(**scope), scope["b"])
        raised(TypeTrouble, Expression.read("or_else(a, c)").typed, **scope)
        keyed = {"a": Type.read("[{x: text, y: text} by x]?"), "b": Type.read("[{x: text, y: text} by y]"),
                "c": Type.read("[{x: text, y: text}]")}
        raised(TypeTrouble, Expression.read("or_else(a, b)").typed, **keyed)
        raised(TypeTrouble, Expression.read("or_else(a, c)").typed, **keyed)

    def test_no_types_at_all(self):
        self.assertEqual(str(Expression.read("sum(1, 2)").typed()), "number")
        self.assertEqual(raised(TypeTrouble, Expression.read("not(a.b)").typed).part, "a.b")


class ValueTest(unittest.TestCase):
    def test_values(self):
        for text, data, wanted in VALUES:
            expression = Expression.read(text)
            for values in (data, dict(reversed(list(data.items()))), {**data, "zz": 1, "other": [1]}):
                found = unchanged(self, values, expression)
                self.assertEqual(repr(found), repr(wanted), text)
                self.assertEqual(repr(expression(values=values)), repr(wanted), text)

    def test_flags_of_two_arguments(self):
        for one in (True, False):
            for other in (True, False):
                values = {"a": one, "b": other}
                self.assertIs(Expression.read("both(a, b)")(values), one and other)
                self.assertIs(Expression.read("either(a, b)")(values), one or other)
                self.assertIs(Expression.read("equal(a, b)")(values), one == other)

    def test_values_are_of_the_types(self):
        for text, _ in TYPED:
            expression = Expression.read(text)
            names = expression.variables
            for chosen in itertools.product(*[SCOPE[name][1] for name in names]):
                found = expression(dict(zip(names, chosen)))
                self.assertTrue(found in expression.typed(**TYPES), (text, chosen))
                self.assertTrue(same(found, expression(dict(zip(names, chosen)))))

    def test_one_expression_with_many_data(self):
        expression = Expression.read("joined(a.b, \":\", size(c))")
        for many in range(60):
            self.assertEqual(expression({"c": (1,) * many, "a": {"b": many, "c": 1}}), f"{many}:{many}")
        self.assertEqual(expression, Expression.read("joined(a.b, \":\", size(c))"))


if __name__ == "__main__":
    unittest.main()
