"""Point 14: which bodies there are, what they consist of, and the way back."""

import random
import unittest

from shapekeep.bodies import parse_body, write_body
from shapekeep.errors import InvalidBody, InvalidTree
from tests.second import read_body
from tests.support import in_lists, raised, unchanged
from tests.templates import BodyGrower

TWELVE = "abcdefghijkl"
THIRTEEN = TWELVE + "m"

# Bodies, their nodes, and the bodies of these if they are not the same.
BODIES = [
    ("", (), None),
    ("a", (("literal", "a"),), None),
    ("a <b> & \"c\" 'd' \\\n e", (("literal", "a <b> & \"c\" 'd' \\\n e"),), None),
    ("{(}", (("literal", "{"),), None), ("{)}", (("literal", "}"),), None),
    ("a{(}b{)}c", (("literal", "a{b}c"),), None), ("{(}{(}{)}{)}", (("literal", "{{}}"),), None),
    ("{(}= a{)}", (("literal", "{= a}"),), None), ("({)}", (("literal", "(}"),), None),
    ("{**}", (), ""), ("{***}", (), ""), ("{* a *}", (), ""), ("{*{*}", (), ""), ("{*{if a*}", (), ""),
    ("{*\n*}", (), ""), ("{*a**}", (), ""), ("{*(*}", (), ""),
    ("a{* b *}c", (("literal", "ac"),), "ac"), ("{**}a{**}{* {= x *}b{**}", (("literal", "ab"),), "ab"),
    ("a{**}{(}{**}b", (("literal", "a{b"),), "a{(}b"),
    ("{= a}", (("hole", "a"),), None), ("{= a.b.c}", (("hole", "a.b.c"),), None),
    ("{= \"a, b = ' * (\"}", (("hole", "\"a, b = ' * (\""),), None),
    ("{= joined(\"x\", or_else(a, 1))}", (("hole", "joined(\"x\", or_else(a, 1))"),), None),
    ("{= 5}{= true}", (("hole", "5"), ("hole", "true")), None),
    ("a{= b}c", (("literal", "a"), ("hole", "b"), ("literal", "c")), None), ("{= if}{= else}{= end}",
    (("hole", "if"), ("hole", "else"), ("hole", "end")), None),
    ("{if a}{end}", (("if", "a", (), ()),), None), ("{if a}b{end}", (("if", "a", (("literal", "b"),), ()),), None),
    ("{if a}{else}{end}", (("if", "a", (), ()),), "{if a}{end}"),
    ("{if a}b{else}{end}", (("if", "a", (("literal", "b"),), ()),), "{if a}b{end}"),
    ("{if a}{**}{else}{**}{end}", (("if", "a", (), ()),), "{if a}{end}"),
    ("{if a}{else}b{end}", (("if", "a", (), (("literal", "b"),)),), None),
    ("{if not(a)}b{else}c{end}d", (("if", "not(a)", (("literal", "b"),), (("literal", "c"),)), ("literal", "d")), None),
    ("{if true}{if false}a{else}b{end}{else}{if c}d{end}{end}",
     (("if", "true", (("if", "false", (("literal", "a"),), (("literal", "b"),)),),
     (("if", "c", (("literal", "d"),), ()),)),), None),
    ("{for a in b}{end}", (("for", "a", "b", ()),), None), ("{for in in for.in}{= in}{end}",
    (("for", "in", "for.in", (("hole", "in"),)),), None),
    ("{for a in a.true.self}x{end}", (("for", "a", "a.true.self", (("literal", "x"),)),), None),
    (f"{{for {TWELVE} in b}}{{end}}", (("for", TWELVE, "b", ()),), None),
    ("{let a = b}{end}", (("let", "a", "b", ()),), None), ("{let let = sum(1, let)}{= let}{end}",
    (("let", "let", "sum(1, let)", (("hole", "let"),)),), None),
    ("{let a = \" = \"}x{end}", (("let", "a", "\" = \"", (("literal", "x"),)),), None), ("{let trues = true}{end}",
    (("let", "trues", "true", ()),), None),
    ("{use a}", (("use", "a", ()),), None), ("{use true}{use self}", (("use", "true", ()), ("use", "self", ())), None),
    (f"{{use {TWELVE}}}", (("use", TWELVE, ()),), None),
    ("{use a b=c}", (("use", "a", (("b", "c"),)),), None), ("{use a a=a b=b.c c=\"d e=f\" d=sum(1, 2) e=-5}",
                                                          (("use", "a", (("a", "a"), ("b", "b.c"), ("c", "\"d e=f\""),
                                                          ("d", "sum(1, 2)"), ("e", "-5"))),), None),
    ("{use a self=1 true=2}", (("use", "a", (("self", "1"), ("true", "2"))),), None),
    ("{use a false=false}", (("use", "a", (("false", "false"),)),), None),
    ("{use a b=c ba=c bb=c c=c}", (("use", "a", (("b", "c"), ("ba", "c"), ("bb", "c"), ("c", "c"))),), None),
    ("{use use use=use}", (("use", "use", (("use", "use"),)),), None),
    ("{wrap a}{end}", (("wrap", "a", (), ()),), None), ("{wrap a b=c}d{slot}e{end}",
    (("wrap", "a", (("b", "c"),), (("literal", "d"), ("slot",), ("literal", "e"))),), None),
    ("{wrap a b=1 c=\"x\"}{end}", (("wrap", "a", (("b", "1"), ("c", "\"x\"")), ()),), None),
    ("{slot}", (("slot",),), None), ("{slot}{slot}a{slot}", (("slot",), ("slot",), ("literal", "a"), ("slot",)), None),
    ("<p a=\"{= b}\">{for c in d}{if e}{let f = g}{wrap h}{use i}{end}{end}{end}{end}</p>",
     (("literal", "<p a=\""), ("hole", "b"), ("literal", "\">"),
      ("for", "c", "d", (("if", "e", (("let", "f", "g", (("wrap", "h", (), (("use", "i", ()),)),)),), ()),)),
      ("literal", "</p>")), None),
]

# What stands in a tag that is none.
NO_TAGS = [
    "", " ", "*", "x", "a", "=", "= ", "=a", "=  a", "= a ", " = a", "= a b", "= A", "= (a)", "= a.", "= self", "= \"a",
    "= 01", "= sum()", "= a\n", "== a", "= {", "= not(a",
    "if", "if ", "ifa", "if  a", "if a ", " if a", "If a", "if a b", "if self", "if (a)", "if\na", "if a else",
    "if not a", "elif a", "else ", " else", "else if a", "Else", "elses",
    "end ", " end", "end if", "endif", "End", "ends", "/if", "for", "for a", "for a in", "for a in ", "for  a in b",
    "for a  in b", "for a in  b", "for a in b ", "for in b", "for a of b",
    "for a in true", "for a in false", "for a in self", "for a in self.b", "for a in true.b", "for a in 1",
    "for a in \"b\"", "for a in or_else(b, c)", "for a in size(b)", "for true in b",
    "for false in b", "for self in b", "for A in b", f"for {THIRTEEN} in b", "for a.b in c", "for a, b in c",
    "for a in b c", "for a in b.", "fora in b", "for 1 in b", "for a inb", "for a in B",
    "let", "let a", "let a =", "let a = ", "let a=b", "let a= b", "let a =b", "let  a = b", "let a  = b", "let a =  b",
    "let a = b ", "let true = b", "let false = b", "let self = b", "let A = b",
    f"let {THIRTEEN} = b", "let a.b = c", "let a = self", "let = b", "let a = b c", "let a = b, c = d", "let a b = c",
    "let a == b", "lets a = b",
    "use", "use ", "use A", "use a ", "use  a", " use a", f"use {THIRTEEN}", "use a.b", "use a b", "use a b=",
    "use a =c", "use a b =c", "use a b= c", "use a  b=c", "use a b=c ", "use a b=c  d=e",
    "use a c=d b=e", "use a b=c b=d", "use a b=c, d=e", "use a b=c d", "use a bb=c b=d", "use a B=c",
    f"use a {THIRTEEN}=c", "use a b=self", "use a b=sum(1,2)", "use a, b=c", "use \"a\"",
    "use a b=c c=d b=e", "use a b=c d=e c=f", "wrap a b=c d=e c=f", "use a b=c d=e d=f", "use a true=1 self=2",
    "use a b=c;d=e", "use a b==c", "use a b.c=d", "use 1", "usea", "uses a",
    "use a b=\"c", "use a b=c=d", "use a b=\"c\"d=e",
    "wrap", "wrap ", "wrap A", "wrap a ", "wrap  a", "wrap a b", "wrap a c=d b=e", "wrap a b=c b=d", "wrap a b=c ",
    "wrapa", "wrap a b=1,c=2", f"wrap {THIRTEEN}", "wrap a b=self",
    "slot ", " slot", "slots", "slot a", "Slot", "slot()", "( ", " (", "((", "()", ")(", "))", "(a", "* a", "a *",
    " * a *", "* *a", "/* a */", "!-- a --", "#", "%", "{", "{(", "{= a", "{{", "a{**",
    "<p>", "0", "\"a\"", "\n", "\\", "els", "slo", "en",
]


class Odd:
    """An object of no kind that the program knows."""


class Same:
    """An object that says of itself that it equals anything."""

    def __eq__(self, other):
        return True


NO_TEXTS = [None, True, False, 0, 1, b"a", ("a",), ["a"], (), {}, {"a"}, Odd(), Same(), str, (("literal", "a"),)]
LITERAL = ("literal", "x")

NO_NODES = [
    None, True, 0, 1, "", "literal", b"a", [], {}, Odd(), Same(), str, (), ("literal",), ("literal", ""),
    ("literal", None), ("literal", 1), ("literal", "a", "b"), ("literal", ("a",)), ["literal", "a"],
    ("literal", b"a"), ("Literal", "a"), ("text", "a"), ("", "a"), (None, "a"), (Same(), "a"), (("literal",), "a"),
    (["literal"], "a"), ("literal", Same()), ("literals", "a"), ("comment", "a"),
    ("hole",), ("hole", ""), ("hole", " a"), ("hole", "a "), ("hole", "self"), ("hole", None), ("hole", 1),
    ("hole", "a", "b"), ("hole", "= a"), ("hole", ("a",)), ("hole", "sum()"), ("hole", b"a"), ["hole", "a"],
    ("hole", "a}"), ("hole", "\"}\""), ("hole", Same()), ("hole", "text", "a"),
    ("if",), ("if", "a"), ("if", "a", ()), ("if", "a", (), (), ()), ("if", "a ", (), ()), ("if", "", (), ()),
    ("if", None, (), ()), ("if", "a", [], ()), ("if", "a", (), []), ("if", "a", None, ()), ("if", "a", (), None),
    ("if", "a", (LITERAL, LITERAL), ()), ("if", "a", (), (LITERAL, LITERAL)), ("if", "a", LITERAL, ()),
    ("if", "a", (), LITERAL), ("if", "a", "x", ()), ("if", "a", (("literal", ""),), ()), ["if", "a", (), ()],
    ("if", (), "a", ()), ("if", "a", (None,), ()), ("if", "a", {}, ()), ("else",), ("end",),
    ("for",), ("for", "a", "b"), ("for", "a", "b", (), ()), ("for", "true", "b", ()), ("for", "self", "b", ()),
    ("for", "false", "b", ()), ("for", "A", "b", ()), ("for", "", "b", ()), ("for", None, "b", ()),
    ("for", THIRTEEN, "b", ()),
    ("for", "a", "true", ()), ("for", "a", "1", ()), ("for", "a", "size(b)", ()), ("for", "a", "\"b\"", ()),
    ("for", "a", "or_else(b, c)", ()), ("for", "a", "self", ()), ("for", "a", "b ", ()), ("for", "a", "", ()),
    ("for", "a", None, ()),
    ("for", "a", "b", []), ("for", "a", "b", None), ("for", "a", "b", (LITERAL, LITERAL)), ("for", "a", "b", LITERAL),
    ["for", "a", "b", ()], ("for", "a.b", "c", ()), ("for", ("a",), "b", ()),
    ("let",), ("let", "a", "b"), ("let", "a", "b", (), ()), ("let", "true", "b", ()), ("let", "self", "b", ()),
    ("let", "false", "b", ()), ("let", "a", "", ()), ("let", "a", "b c", ()), ("let", "a", None, ()),
    ("let", 1, "b", ()),
    ("let", "a", "b", []), ("let", "a", "b", "c"), ("let", THIRTEEN, "b", ()), ("let", "a", "b", (("hole", ""),)),
    ("let", "b", (), "a"),
    ("use",), ("use", "a"), ("use", "a", (), ()), ("use", "A", ()), ("use", "", ()), ("use", None, ()),
    ("use", THIRTEEN, ()), ("use", "a", []), ("use", "a", None), ("use", "a", {}), ("use", "a", {"b": "c"}),
    ("use", "a", "b"),
    ("use", "a", ("b", "c")), ("use", "a", (("b",),)), ("use", "a", (("b", "c", "d"),)), ("use", "a", (["b", "c"],)),
    ("use", "a", (("B", "c"),)), ("use", "a", (("b", "c "),)), ("use", "a", (("b", None),)), ("use", "a", (("b", 1),)),
    ("use", "a", (("c", "d"), ("b", "e"))), ("use", "a", (("b", "c"), ("b", "d"))), ("use", "a", (("", "c"),)),
    ("use", "a", ((None, "c"),)), ("use", "a", (("b", "self"),)), ["use", "a", ()], ("use", ("a",), ()),
    ("wrap",), ("wrap", "a"), ("wrap", "a", ()), ("wrap", "a", (), (), ()), ("wrap", "A", (), ()),
    ("wrap", "a", [], ()), ("wrap", "a", (), []), ("wrap", "a", (), None), ("wrap", "a", (), (LITERAL, LITERAL)),
    ("wrap", "a", (("c", "d"), ("b", "e")), ()), ("wrap", "a", (("b", ""),), ()), ("wrap", "a", (), ("slot",)),
    ("wrap", "a", (), "b"), ("wrap", None, (), ()),
    ("slot", ()), ("slot", "a"), ["slot"], ("Slot",), ("slot", ("slot",)), (("slot",),), "slot", ("slots",),
]


def in_parts(levels, nodes):
    """Puts nodes into so many parts, one within the other."""
    heads = (("if", "a"), ("for", "a", "b"), ("let", "a", "b"), ("wrap", "a", ()))
    for level in range(levels):
        head = heads[level % 4]
        nodes = (head + (nodes,) + ((),) * (level % 4 == 0),)
    return nodes


class ParseTest(unittest.TestCase):
    def test_bodies(self):
        for text, nodes, written in BODIES:
            self.assertEqual(parse_body(text), nodes, text)
            self.assertEqual(parse_body(text=text), nodes)
            self.assertEqual(unchanged(self, nodes, write_body), text if written is None else written)
            self.assertEqual(write_body(nodes=nodes), write_body(nodes))
            self.assertEqual(parse_body(write_body(nodes)), nodes)
            self.assertEqual(read_body(text), (nodes, None))

    def test_comments_between_any_two_characters(self):
        for text, nodes, _ in BODIES:
            places = [at for at in range(len(text) + 1) if text[:at].count("{") == text[:at].count("}")]
            for comment in ("{**}", "{* { *}", "{*{if a*}"):
                if "{*" not in text:
                    spread = "".join((comment if at in places else "") + text[at:at + 1] for at in range(len(text) + 1))
                    self.assertEqual(parse_body(spread), nodes, spread)

    def test_tags_that_are_none(self):
        for content in NO_TAGS:
            for ahead, behind in (("", ""), ("ab", ""), ("{* x *}{(}", "{)}"), ("{if a}b{else}", "{end}"),
                    ("{for a in b}{let c = d}", "{end}{end}")):
                text = f"{ahead}{{{content}}}{behind}"
                self.assertEqual(raised(InvalidBody, parse_body, text).position, len(ahead), text)
                self.assertEqual(raised(InvalidBody, parse_body, text=text + "{end}{nothing}}").position, len(ahead),
                        text)

    def test_no_texts(self):
        for thing in NO_TEXTS:
            self.assertIsNone(raised(InvalidBody, parse_body, thing).position)

    def check(self, *cases):
        for text, position in cases:
            self.assertEqual(raised(InvalidBody, parse_body, text).position, position, text)
            self.assertEqual(read_body(text), (None, position))

    def test_tags_where_they_cannot_stand(self):
        self.check(("{end}", 0), ("{else}", 0), ("a{end}", 1), ("a{else}b", 1), ("{if a}{end}{end}", 11),
                ("{if a}{end}{else}", 11), ("{if a}{else}{else}{end}", 12),
                   ("{if a}b{else}c{else}d{end}", 14), ("{for a in b}{else}{end}", 12), ("{let a = b}{else}{end}", 11),
                   ("{wrap a}{else}{end}", 8),
                   ("{if a}{for b in c}{else}{end}{end}", 18), ("{if a}{else}{for b in c}{else}{end}{end}", 24),
                   ("{use a}{end}", 7), ("{slot}{end}", 6), ("{= a}{end}", 5),
                   ("{* {if a *}{end}", 11), ("{if a}{else}{end}{else}", 17), ("{wrap a}{end}{end}", 13))

    def test_braces_outside_of_tags(self):
        self.check(("}", 0), ("a}", 1), ("{= a}}", 5), ("{(}}", 3), ("{* a *}}", 7), ("a}b{x}", 1), ("{if a}}{end}", 6),
                ("a{= b}c}d}", 7), ("}{", 0), ("{)}}{", 3), ("}{end}", 0))

    def test_what_does_not_end(self):
        self.check(("{", 1), ("ab{", 3), ("{= a", 4), ("a{= b", 5), ("{if a}", 6), ("{if a}b", 7),
                ("{if a}b{else}", 13), ("{if a}b{else}c", 14), ("{for a in b}", 12), ("{let a = b}c", 12),
                   ("{wrap a}", 8), ("{wrap a}{if b}{end}", 19), ("{if a}{= ", 9), ("{if a}{(", 8), ("{* a ", 5),
                   ("{if a", 5), ("{if a}{end", 10), ("{end", 4), ("{else", 5), ("{nothing", 8), ("{if a}{{", 8),
                   ("{*", 2), ("a\n{if b}\n", 9))

    def test_the_first_one_counts(self):
        self.check(("{x}{", 0), ("}{x}", 0), ("{x}}", 0), ("a{end}}{x}", 1), ("{if a}{x}", 6), ("{if a}}", 6),
                ("{if a}{end}{x}{", 11), ("{* } *}", 0), ("{*a}*}", 0),
                   ("ab{if c}d{= 1 }{end}", 9), ("{= \"}\"}", 0), ("{= {a}}", 0), ("{if a}{= b", 10),
                   ("{use a b={= c}}", 0))

    def test_levels(self):
        tags = ("{if a}", "{for a in b}", "{let a = b}", "{wrap a}", "{if a}{else}")
        for tag in tags:
            for inner in ("x", "{= a}", "{use a}{slot}"):
                text = tag * 7 + inner + "{end}" * 7
                self.assertEqual(write_body(parse_body(text)), text)
            for other in ("{if a}", "{for a in b}", "{let a = b}", "{wrap a}"):
                self.check((tag * 7 + other + "{end}" * 8, 7 * len(tag)), ("a" + tag * 7 + "b" + other,
                        7 * len(tag) + 2),
                           (tag * 7 + other + "{x}", 7 * len(tag)), (tag * 7 + "}" + other, 7 * len(tag)))
        self.check(("{if a}" * 9 + "{end}" * 9, 42), ("{if a}" * 500, 42),
                ("{if a}{else}" * 6 + "{if a}{end}{if b}{if c}", 89))
        self.assertEqual(parse_body("{if a}{end}" * 100), (("if", "a", (), ()),) * 100)
        self.assertEqual(len(parse_body("{if a}" * 7 + "{end}{if b}" * 50 + "{end}" * 7)), 1)

    def test_many_bodies(self):
        grower = BodyGrower(random.Random(21))
        for _ in range(1500):
            text = grower.body()
            nodes = parse_body(text)
            self.assertEqual(read_body(text), (nodes, None))
            self.assertEqual(parse_body(write_body(nodes)), nodes)
            self.assertEqual(write_body(parse_body(write_body(nodes))), write_body(nodes))
            for _ in range(4):
                spoilt = grower.spoilt(text)
                nodes, position = read_body(spoilt)
                if position is None:
                    self.assertEqual(parse_body(spoilt), nodes)
                else:
                    self.assertEqual(raised(InvalidBody, parse_body, spoilt).position, position, spoilt)


class WriteTest(unittest.TestCase):
    def test_no_nodes(self):
        for node in NO_NODES:
            for thing in ((node,), (LITERAL, node), (node, ("slot",)), (("hole", "a"), node, LITERAL),
                    (("if", "a", (node,), ()),), (("if", "a", (), (node,)),),
                          (("for", "a", "b", (node,)),), (("let", "a", "b", (node,)),),
                          (("wrap", "a", (), (("slot",), node)),), in_parts(7, (node,))):
                self.assertIs(raised(InvalidTree, write_body, thing).value, thing)
                self.assertIs(raised(InvalidTree, write_body, nodes=thing).value, thing)

    def test_no_sequences(self):
        for thing in NO_TEXTS[:8] + [{}, {"a"}, Odd(), Same(), "", "a", LITERAL, [LITERAL], [], ((LITERAL,),),
                (LITERAL, LITERAL), (LITERAL, ("slot",), LITERAL, LITERAL)]:
            self.assertIs(raised(InvalidTree, write_body, thing).value, thing)

    def test_levels(self):
        for nodes in ((), (LITERAL,), (("hole", "a"), ("slot",))):
            for levels in range(8):
                self.assertEqual(parse_body(write_body(in_parts(levels, nodes))), in_parts(levels, nodes))
            for levels in (8, 9, 12, 100, 290):
                thing = in_parts(levels, nodes)
                self.assertIs(raised(InvalidTree, write_body, thing).value, thing)
        behind = ()
        for levels in range(9):
            if levels < 8:
                self.assertEqual(parse_body(write_body(behind)), behind)
            else:
                self.assertIs(raised(InvalidTree, write_body, behind).value, behind)
            behind = (("if", "a", (), behind or (LITERAL,)),)
        for thing in (in_lists(12, LITERAL), in_lists(300, LITERAL), in_lists(300, ())):
            self.assertIs(raised(InvalidTree, write_body, thing).value, thing)

    def test_names_that_are_no_variables_may_be_passed(self):
        for name in ("true", "false", "self"):
            nodes = (("use", name, ((name, "1"),)), ("wrap", name, ((name, "1"),), ()))
            self.assertEqual(parse_body(write_body(nodes)), nodes)


if __name__ == "__main__":
    unittest.main()
