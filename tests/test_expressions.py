"""Points 4, 5, 6 and 13: which writings are expressions, and what an Expression tells of itself."""

import unittest

from shapekeep.errors import InvalidText
from shapekeep.expressions import Expression
from shapekeep.types import Type
from tests.descent import SIGNS
from tests.support import raised

TWELVE = "abcdefghijkl"
THIRTEEN = TWELVE + "m"


def nested(levels, word="not", inner="a"):
    """Returns an expression with so many functions within each other."""
    return f"{word}(" * levels + inner + ")" * levels


# Expressions, with their reads.
WRITINGS = [
    ("a", [("a",)]), ("a.b", [("a", "b")]), ("a.b.c.d.e.f.g.h", [tuple("abcdefgh")]), (TWELVE, [(TWELVE,)]),
    (f"{TWELVE}.{TWELVE}", [(TWELVE, TWELVE)]), ("text", [("text",)]), ("sum", [("sum",)]), ("equal", [("equal",)]),
    ("not.size", [("not", "size")]),
    ("a.true", [("a", "true")]), ("a.false.self", [("a", "false", "self")]), ("truex", [("truex",)]),
    ("selfs", [("selfs",)]),
    ("a.a", [("a", "a")]), ("null", [("null",)]), ("none", [("none",)]), ("or", [("or",)]), ("else", [("else",)]),
    ("a.sum", [("a", "sum")]),
    ("\"\"", []), ("\"a\"", []), ("\" \"", []), ("\"a b, c(d) 'e' \\ \\n & < > # .\"", []),
    ("\"" + "x" * 60 + "\"", []), ("\"\\\"", []),
    ("\"true\"", []), ("\"a.b\"", []), ("\"1\"", []), ("\"\\\\\"", []),
    ("0", []), ("1", []), ("-1", []), ("12", []), ("-305", []), ("9" * 15, []), ("-" + "9" * 15, []),
    ("100000000000000", []),
    ("true", []), ("false", []),
    ("equal(a, b)", [("a",), ("b",)]), ("equal(1, 1)", []), ("less(a.b, 3)", [("a", "b")]), ("not(a)", [("a",)]),
    ("both(a, true)", [("a",)]),
    ("either(b, a)", [("a",), ("b",)]), ("sum(a)", [("a",)]), ("sum(1, -2, a, 3, a)", [("a",)]),
    ("joined(a)", [("a",)]),
    ("joined(\"(\", a, \", \", b, \")\")", [("a",), ("b",)]), ("size(a.b)", [("a", "b")]), ("has(a)", [("a",)]),
    ("or_else(a, \"x\")", [("a",)]),
    ("or_else(b.c, a.c)", [("a", "c"), ("b", "c")]), ("equal(a, a.b)", [("a",), ("a", "b")]),
    ("equal(a.b.c, a.b)", [("a", "b"), ("a", "b", "c")]),
    ("joined(b, a, b.c, a, ab)", [("a",), ("ab",), ("b",), ("b", "c")]), ("sum(z.a, a.z, a.b, z)",
    [("a", "b"), ("a", "z"), ("z",), ("z", "a")]),
    ("not(not(equal(size(a), sum(1, size(b)))))", [("a",), ("b",)]), (nested(7), [("a",)]), (nested(7, "sum", "1"), []),
    ("both(" + nested(6) + ", " + nested(6, inner="b") + ")", [("a",), ("b",)]), ("joined(" + "a, " * 99 + "a)",
    [("a",)]),
    ("less(sum(1), has(a))", [("a",)]), ("not(1)", []), ("size(\"a\")", []), ("sum(sum, size)", [("size",), ("sum",)]),
    ("equal(equal.equal, not)", [("equal", "equal"), ("not",)]),
]

NO_WRITINGS = [
    "", " ", "A", "aB", "a1", "1a", "a_b", "a-b", "-a", "a b", "a,b", "a, b", "(a)", "a)", "(a", "a(b)", "a()", "()",
    "?", "a?", "[a]", "{a}", "a+b", "a = b", "%",
    THIRTEEN, f"a.{THIRTEEN}", f"{THIRTEEN}.a",
    "a.", ".a", "a..b", "a. b", "a .b", "a.b.", "a.B", "a.1", "a.\"b\"", "1.a", "\"a\".b", "a.b c", "size(a).b",
    "a.size(b)",
    "self", "self.a", "true.a", "false.b", "True", "False", "self(a)", "true(a)", "not(self)", "equal(self, a)",
    "self.self",
    "'a'", "\"", "\"a", "a\"", "\"a\"b", "\"a\"\"b\"", "\"\"\"", "\"a\\\"b\"", "\"" + "x" * 61 + "\"", "\"a{b\"",
    "\"a}b\"", "\"a\nb\"", "\"\n\"", "\"{\"", "\"}\"",
    "\"%\"", "\"\t\"", "\"é\"", "\"\x7f\"", "\"\x00\"", "\"\r\"",
    "00", "01", "-0", "-01", "-", "--1", "+1", "- 1", "1 2", "1.5", "1,000", "1e3", "0x1", "00000000000000000000",
    "1" * 16, "-" + "1" * 16, "1_000", "-00", "1-", "000",
    "٣", "1 ", " 1",
    "equal())"] + [
    f"{word}{inside}" for word, insides in (
        ("equal", ["()", "(a)", "(a, b, c)", "(, )", "(a, )", "(, a)"]), ("less", ["()", "(1)", "(1, 2, 3)"]),
        ("not", ["()", "(a, b)"]),
        ("both", ["()", "(a)", "(a, b, c)"]), ("either", ["()", "(a)", "(a, b, c)"]),
        ("sum", ["()", "(a, )", "(, a)", "(a,, b)"]),
        ("joined", ["()", "(a, )", "(, a)"]), ("size", ["()", "(a, b)"]), ("has", ["()", "(a, b)"]),
        ("or_else", ["()", "(a)", "(a, b, c)"]),
        ("orelse", ["(a, b)"]), ("or else", ["(a, b)"]), ("Equal", ["(a, b)"]), ("sums", ["(a)"]), ("joint", ["(a)"]),
        ("or_", ["(a, b)"]), ("and", ["(a, b)"]),
        ("min", ["(a)"]), ("length", ["(a)"]), ("_else", ["(a, b)"]), ("or_else", [""]))
    for inside in insides] + [
    " a", "a ", "a\n", "\na", "not (a)", "not( a)", "not(a )", " not(a)", "not(a) ", "equal(a,b)", "equal(a,  b)",
    "equal(a , b)", "equal( a, b)", "equal(a, b )",
    "equal(a,\nb)", "equal (a, b)", "equal(a b)", "equal(a; b)", "sum(1,2)", "equal(a, b", "equal(a, b))", "equal a, b",
    "equal(a, b)c", "not(a)(b)", "not[a]",
    "not(a", "nota)", "not((a))", "(not(a))", "not(a).b", "equal(a, b) , c", "not(not(a)", "sum(1, 2", "joined(\"a, b)",
    "joined(\"a\" , b)", "joined(\"a\",b)",
    "joined(\"" + "x" * 61 + "\")", "joined(a, \"{\")", "sum(1, 01)", "sum(1, " + "1" * 16 + ")",
    nested(8), nested(9), nested(1000), "not(" * 1200, nested(8, "sum", "1"), "both(a, " + nested(7) + ")",
    "both(" + nested(7) + ", a)", "joined(\"a\", " + nested(7, "joined") + ")",
]


class Odd:
    """An object of no kind that the program knows."""


NO_TEXTS = [None, True, False, 1, 0, b"a", ("a",), ["a"], {"a": "a"}, {"a"}, (), {}, Odd(), Odd, str, Expression,
        Expression.read("a")]


class ReadTest(unittest.TestCase):
    def test_writings(self):
        for text, reads in WRITINGS:
            found = Expression.read(text)
            self.assertIs(type(found), Expression)
            self.assertEqual((str(found), repr(found)), (text, f"Expression('{text}')"))
            self.assertEqual(found.reads, tuple(reads), text)
            self.assertEqual(found.variables, tuple(sorted({names[0] for names in reads})), text)
            self.assertEqual((type(found.reads), type(found.variables)), (tuple, tuple))
            self.assertEqual({type(names) for names in found.reads} | {tuple}, {tuple})
            self.assertEqual(Expression.read(str(found)), found)
            self.assertEqual(Expression.read(text=text), found)

    def test_no_writings(self):
        for text in NO_WRITINGS:
            self.assertIs(raised(InvalidText, Expression.read, text).written, text)
            self.assertIs(raised(InvalidText, Expression.read, text=text).written, text)

    def test_no_texts(self):
        for thing in NO_TEXTS:
            self.assertIs(raised(InvalidText, Expression.read, thing).written, thing)

    def test_read_of_an_object(self):
        found = Expression.read("a")
        self.assertEqual(str(found.read("sum(1, b)")), "sum(1, b)")
        self.assertEqual(str(found), "a")
        self.assertEqual(raised(InvalidText, found.read, "sum()").written, "sum()")

    def test_signs_in_texts(self):
        for sign in SIGNS:
            for text in (f"\"{sign}\"", f"\"ab{sign}\"", f"joined(a, \"{sign}b\")"):
                if sign in "\"{}\n":
                    raised(InvalidText, Expression.read, text)
                else:
                    self.assertEqual(str(Expression.read(text)), text)
                    self.assertIn(sign, Expression.read(text)({"a": ""}))

    def test_each_variable(self):
        for name in ("true", "false", "self"):
            self.assertEqual(Expression.read(name).reads if name != "self" else (), ())
            self.assertEqual(Expression.read(f"a.{name}").reads, (("a", name),))
            self.assertEqual(Expression.read(f"a.{name}.{name}").reads, (("a", name, name),))
            raised(InvalidText, Expression.read, f"{name}.a")
            raised(InvalidText, Expression.read, f"size({name}.a)")

    def test_cut_off_and_lengthened(self):
        for text, _ in WRITINGS:
            for sign in (" ", ")", "(", ",", "\"", ".", "?", "\n", ", "):
                raised(InvalidText, Expression.read, text + sign)
                raised(InvalidText, Expression.read, sign + text)

    def test_an_expression_is_true(self):
        for text in ("a", "0", "false", "\"\""):
            self.assertTrue(Expression.read(text))


class EqualTest(unittest.TestCase):
    def test_expressions_are_equal_if_their_writings_are(self):
        for at, (text, _) in enumerate(WRITINGS):
            for place, (other, _) in enumerate(WRITINGS):
                one, two = Expression.read(text), Expression.read(other)
                self.assertIs(one == two, at == place)
                self.assertIs(one != two, at != place)

    def test_other_values(self):
        found = Expression.read("text")
        for other in ("text", None, 1, True, ("text",), Type.read("text"), Odd(), Expression, ["text"]):
            self.assertIs(found == other, False)
            self.assertIs(other == found, False)
            self.assertIs(found != other, True)
            self.assertIs(other != found, True)

    def test_not_by_their_values(self):
        for one, other in (("sum(1, 2)", "3"), ("both(a, b)", "both(b, a)"), ("1", "true"), ("\"1\"", "1"),
                ("joined(\"a\")", "\"a\"")):
            self.assertTrue(Expression.read(one) != Expression.read(other))


if __name__ == "__main__":
    unittest.main()
