"""Points 2 and 11: trees, their pages, and the way back."""

import random
import unittest

from shapekeep.errors import InvalidPage, InvalidTree
from shapekeep.markup import is_tree, parse, write
from tests.descent import CODED, ITSELF, SIGNS, read_page
from tests.growing import Grower
from tests.support import in_lists, in_records, raised, unchanged

TWELVE = "abcdefghijkl"
THIRTEEN = TWELVE + "m"

# Trees and their pages.
PAGES = [
    ((), ""),
    ((("text", "a"),), "a"),
    ((("text", "\n"),), "\n"),
    ((("text", "a & b < c > \"d\" 'e' \\ &amp; &lt;"),), "a &amp; b &lt; c > \"d\" 'e' \\ &amp;amp; &amp;lt;"),
    ((("element", "p", (), ()),), "<p></p>"),
    ((("element", TWELVE, (), ()),), f"<{TWELVE}></{TWELVE}>"),
    ((("element", "href", (), ()), ("element", "datas", (), ()), ("element", "dat", (), ())),
     "<href></href><datas></datas><dat></dat>"),
    ((("element", "p", (), (("text", "a"), ("element", "b", (), (("text", "c"),)), ("text", "d"))), ("text", "e")),
     "<p>a<b>c</b>d</p>e"),
    ((("element", "p", (), (("element", "p", (), (("element", "p", (), ()),)), ("element", "p", (), ()))),),
     "<p><p><p></p></p><p></p></p>"),
    ((("element", "p", (("a", "b"),), ()),), "<p a=\"b\"></p>"),
    ((("element", "p", (("a", ""), ("a", "")), ()),), "<p a=\"\" a=\"\"></p>"),
    ((("element", "p", (("z", "1"), ("data", "2"), ("a", "3"), ("hrefs", "4"), (TWELVE, "5")), ()),),
     f"<p z=\"1\" data=\"2\" a=\"3\" hrefs=\"4\" {TWELVE}=\"5\"></p>"),
    ((("element", "p", (("a", "& < > \" ' \\ \n &quot; /?"),), ()),),
     "<p a=\"&amp; &lt; > &quot; ' \\ \n &amp;quot; /?\"></p>"),
    ((("element", "a", (("href", (("",), ())),), ()),), "<a href=\"/\"></a>"),
    ((("element", "a", (("href", (("x",), ())),), ()),), "<a href=\"/x\"></a>"),
    ((("element", "a", (("href", (("", ""), ())), ("href", (("x", "", "y"), ()))), ()),),
    "<a href=\"//\" href=\"/x//y\"></a>"),
    ((("element", "a", (("href", (("x",), (("q", ""),))),), ()),), "<a href=\"/x?q=\"></a>"),
    ((("element", "a", (("href", (("",), (("q", "1"), ("a", "b c"), ("q", "1"), ("href", "/")))),), ()),),
     "<a href=\"/?q=1;a=b~20c;q=1;href=~2f\"></a>"),
    ((("element", "a", (("href", (("x y", "Az09-_."), (("k", "~/?;=&\"<>\n"),))), ("b", "c")), (("text", "d"),)),),
     "<a href=\"/x~20y/Az09-_.?k=~7e~2f~3f~3b~3d~26~22~3c~3e~0a\" b=\"c\">d</a>"),
    ((("data", None),), "<data>null</data>"),
    ((("data", True), ("data", False)), "<data>true</data><data>false</data>"),
    ((("text", "a"), ("data", 0), ("text", "b")), "a<data>0</data>b"),
    ((("data", 12), ("data", -305), ("data", 10 ** 29)), f"<data>12</data><data>-305</data><data>{10 ** 29}</data>"),
    ((("data", ""),), "<data>\"\"</data>"),
    ((("data", "a\"b\\c\nd<e>&'/l\\n\\l"),), "<data>\"a\\\"b\\\\c\\nd\\le>&'/l\\\\n\\\\l\"</data>"),
    ((("data", ()),), "<data>[]</data>"),
    ((("data", (1, "a", None, (True,), {})),), "<data>[1,\"a\",null,[true],{}]</data>"),
    ((("data", {}),), "<data>{}</data>"),
    ((("data", {"a": 1, "ab": {"z": ()}, "b": "<"}),), "<data>{\"a\":1,\"ab\":{\"z\":[]},\"b\":\"\\l\"}</data>"),
    ((("element", "p", (), (("data", (0,)),)),), "<p><data>[0]</data></p>"),
]


def elements(levels, nodes=()):
    """Puts nodes into so many elements, one within the other."""
    for _ in range(levels):
        nodes = (("element", "a", (), nodes),)
    return nodes


class Odd:
    """An object of no kind that the program knows."""


class Same:
    """An object that says of itself that it equals anything."""

    def __eq__(self, other):
        return True


ODD = [None, True, False, 0, 1, "", "a", "text", b"text", [], {}, set(), Odd(), Odd, Same(), str, range(2), lambda: 1]

# Nodes that are none.
NO_NODES = ODD + [
    (), ("text",), ("data",), ("element",), ("text", ""), ("text", None), ("text", 1), ("text", ("a",)), ("text", b"a"),
    ("text", "a", ()), ("text", ["a"]), ("text", "a", "b"), ["text", "a"], ("Text", "a"), ("", "a"), (None, "a"),
    ("texts", "a"),
    ("a", "text"), (("text",), "a"), (["text"], "a"), ({}, "a"), (Same(), "a"), ("text", Same()), (b"text", "a"),
    (("text", "a"),),
    ("literal", "a"), ("comment", "a"), (1, "a"), (True, "a"),
    ("data", 1, 2), ("data", [1]), ("data", (1, [1])), ("data", {"A": 1}), ("data", {1: 1}), ("data", b"a"),
    ("data", Odd()), ["data", 1],
    ("data", (0,) * 61), ("data", in_lists(7, 1)), ("data", in_lists(6, ())), ("data", in_lists(6, {})),
    ("data", in_records(7, 1)),
    ("data", in_records(6, ())), ("data", {"": 1}), ("data", {THIRTEEN: 1}), ("data", {"a": {"b": {1}}}),
    ("data",) + ((),) * 2,
    ("elements", "p", (), ()), ("Element", "p", (), ()), ("", "p", (), ()), ("element", "p", ()), ("element", "p"),
    ("element", "p", (), (), ()), ("element", "", (), ()),
    ("element", "P", (), ()),
    ("element", THIRTEEN, (), ()), ("element", "data", (), ()), ("element", "a1", (), ()), ("element", None, (), ()),
    ("element", 1, (), ()),
    ("element", ("p",), (), ()), ("element", b"p", (), ()), ("element", "p", [], ()), ("element", "p", (), []),
    ("element", "p", None, ()),
    ("element", "p", (), None), ("element", "p", (), "a"), ("element", "p", {}, ()),
    ("element", "p", (), ("text", "a")),
    ["element", "p", (), ()], ("element", "p", (), (("text", "a"), ("text", "b"))),
    ("element", "p", (), (["text", "a"],)),
    ("element", "p", (), (("text", ""),)), ("element", "p", (), (None,)), ("element", "p", "", ()),
    ("element", "p", (), ((),)),
    ("element", "p", (), (("element", "q", (), (("element", "data", (), ()),)),)),
]
NO_ATTRIBUTES = ODD + [
    (), ("a",), ("a", "b", "c"), ["a", "b"], ("a", None), ("a", 1), ("a", b"b"), ("a", ("b",)), ("", "b"), ("A", "b"),
    (THIRTEEN, "b"), (None, "b"),
    (1, "b"), ("a b", "c"), ("a", ["b"]), ("a", Same()), (Same(), "b"), (("a",), "b"), ("a", True), ("a", {}),
    ("href", "b"), ("href", "/b"), ("href", ""), ("href", None), ("href", ()), ("href", ("b",)), ("href", (("b",),)),
    ("href", (("b",), (), ())),
    ("href", [("b",), ()]), ("href", (["b"], ())), ("href", (("b",), [])), ("href", ((), ())), ("href", ("b", ())),
    ("href", (("b",), None)),
    ("href", ((1,), ())), ("href", ((None,), ())), ("href", (("a", b"b"), ())), ("href", ((("a",),), ())),
    ("href", (("b",), ("q", "1"))),
    ("href", (("b",), (("q",),))), ("href", (("b",), (("q", "1", "2"),))), ("href", (("b",), (("q", 1),))),
    ("href", (("b",), (("Q", "1"),))),
    ("href", (("b",), (["q", "1"],))), ("href", (("b",), (("", "1"),))), ("href", (("b",), ((THIRTEEN, "1"),))),
    ("href", ((), (("q", "1"),))),
    ("href", (("b",), (("q", None),))), ("href", (("b",), {"q": "1"})), ("href", (("b",), (("q", "1"), None))),
    ("href", ((["b"],), ())),
    ("href", (("b",), ((("q",), "1"),))), ("href", (("b",), "")), ("href", ("", ())), ("hrefs", (("b",), ())),
    ("a", (("b",), ())),
]


class WriteTest(unittest.TestCase):
    def test_pages(self):
        for tree, page in PAGES:
            self.assertIs(is_tree(tree), True, tree)
            self.assertEqual(write(tree), page)
            self.assertEqual(write(tree=tree), page)

    def test_trees_are_not_changed(self):
        for tree, page in PAGES:
            self.assertEqual(unchanged(self, tree, write), page)
            self.assertIs(unchanged(self, tree, is_tree), True)

    def test_each_sign(self):
        for sign in SIGNS:
            text = {"&": "&amp;", "<": "&lt;"}.get(sign, sign)
            self.assertEqual(write((("text", sign),)), text)
            self.assertEqual(write((("element", "p", (("a", sign),), ()),)),
                    f"<p a=\"{text if sign != chr(34) else '&quot;'}\"></p>")
            code = sign if sign in ITSELF else f"~{ord(sign):02x}"
            self.assertEqual(write((("element", "p", (("href", ((sign,), (("a", sign),))),), ()),)),
                    f"<p href=\"/{code}?a={code}\"></p>")
            literal = {"\"": "\\\"", "\\": "\\\\", "\n": "\\n", "<": "\\l"}.get(sign, sign)
            self.assertEqual(write((("data", sign),)), f"<data>\"{literal}\"</data>")

    def test_keys_of_records_in_any_order(self):
        names = ["a", "aa", "ab", "b", "z", TWELVE]
        for seed in range(10):
            random.Random(seed).shuffle(names)
            record = {name: len(name) for name in names}
            self.assertEqual(write((("data", record),)),
                    f"<data>{{\"a\":1,\"aa\":2,\"ab\":2,\"{TWELVE}\":12,\"b\":1,\"z\":1}}</data>")
            self.assertEqual(list(parse(write((("data", (record,)),)))[0][1][0]), sorted(names))
            self.assertEqual(unchanged(self, (("data", record),), write)[:7], "<data>{")

    def test_no_trees(self):
        for node in NO_NODES:
            for thing in ((node,), (("text", "a"), node), (("data", 1), node, ("text", "a")),
                    (("element", "p", (), (node,)),),
                          elements(29, (node,))):
                self.assertIs(is_tree(thing), False, thing)
                self.assertIs(raised(InvalidTree, write, thing).value, thing)

    def test_no_attributes(self):
        for attribute in NO_ATTRIBUTES:
            for attributes in ((attribute,), (("a", "b"), attribute), (attribute, ("a", "b"))):
                thing = (("element", "p", attributes, ()),)
                self.assertIs(is_tree(thing), False, thing)
                self.assertIs(raised(InvalidTree, write, thing).value, thing)

    def test_no_sequences_of_nodes(self):
        for thing in ODD + ["ab", ("a", "b"), ("text", "a"), [("text", "a")], {"text": "a"}, ("element", "p", (), ()),
                ((("text", "a"),),),
                            (("text", "a"), ("text", "b")), (("element", "p", (), ()), ("text", "a"), ("text", "a"))]:
            self.assertIs(is_tree(thing), False, thing)
            self.assertIs(is_tree(thing=thing), False, thing)
            self.assertIs(raised(InvalidTree, write, thing).value, thing)

    def test_texts_with_something_between_them(self):
        for node in (("data", "a"), ("element", "p", (), ())):
            self.assertTrue(is_tree((("text", "a"), node, ("text", "b"), node, node, ("text", "c"))))

    def test_elements_within_each_other(self):
        for nodes in ((), (("text", "a"),), (("data", in_lists(6, 1)),)):
            self.assertTrue(is_tree(elements(30, nodes)))
            page = write(elements(30, nodes))
            self.assertEqual(page, "<a>" * 30 + write(nodes) + "</a>" * 30)
            self.assertEqual(parse(page), elements(30, nodes))
            self.assertTrue(is_tree(elements(30, nodes) * 2))
            for levels in (31, 32, 100, 300):
                self.assertFalse(is_tree(elements(levels, nodes)))
                self.assertFalse(is_tree(elements(levels - 1, nodes + (("element", "b", (), ()),))))
                raised(InvalidTree, write, elements(levels, nodes))
        self.assertFalse(is_tree(elements(15, (("data", 1),) + elements(16))))
        self.assertFalse(is_tree(in_lists(300, ())))
        self.assertFalse(is_tree(in_lists(300, ("text", "a"))))


class ParseTest(unittest.TestCase):
    def test_pages(self):
        for tree, page in PAGES:
            # The writing of a tree tells True from 1, too.
            self.assertEqual(repr(parse(page)), repr(tree))
            self.assertEqual(repr(parse(page=page)), repr(tree))
            self.assertEqual(write(parse(page)), page)

    def test_many_pages_and_what_is_none(self):
        grower = Grower(random.Random(11))
        for _ in range(1500):
            tree = grower.tree()
            self.assertTrue(is_tree(tree))
            page = write(tree)
            self.assertEqual(parse(page), tree)
            self.assertEqual(repr(parse(page)), repr(read_page(page)[0]))
            for _ in range(4):
                text = grower.spoilt(page)
                tree, position = read_page(text)
                if position is None:
                    self.assertEqual((repr(parse(text)), write(parse(text))), (repr(tree), text))
                else:
                    self.assertEqual(raised(InvalidPage, parse, text).position, position, text)

    def test_different_trees_have_different_pages(self):
        grower = Grower(random.Random(12))
        pages = {}
        for _ in range(3000):
            tree = grower.tree(2)
            self.assertEqual(repr(pages.setdefault(write(tree), parse(write(tree)))), repr(parse(write(tree))))
            self.assertEqual(pages[write(tree)], tree)

    def test_kinds_of_values(self):
        for text, value in (("1", 1), ("0", 0), ("true", True), ("false", False), ("null", None), ("\"1\"", "1"),
                ("[1,true]", (1, True)),
                            ("[0,false,-1]", (0, False, -1)), ("{\"a\":true,\"b\":1}", {"a": True, "b": 1})):
            self.assertEqual(repr(parse(f"<data>{text}</data>")), repr((("data", value),)))

    def test_codes(self):
        for first in "0123456789abcdefABCDEF~/ ":
            for second in "0123456789abcdefABCDEFg~/ ":
                page = f"<a href=\"/~{first}{second}\"></a>"
                if first + second in CODED:
                    self.assertEqual(parse(page)[0][2], (("href", ((CODED[first + second],), ())),))
                else:
                    ahead = [code for code in CODED if code[0] == first]
                    self.assertEqual(raised(InvalidPage, parse, page).position, 12 if ahead else 11, page)

    def test_long_pages(self):
        page = "<p a=\"" + "&quot;" * 8000 + "\">" + "a&lt;" * 8000 + "</p>"
        self.assertEqual(parse(page), (("element", "p", (("a", "\"" * 8000),), (("text", "a<" * 8000),)),))
        self.assertEqual(write(parse(page)), page)


class InvalidPageTest(unittest.TestCase):
    def check(self, *cases):
        for text, position in cases:
            self.assertEqual(raised(InvalidPage, parse, text).position, position, text)
            self.assertEqual(read_page(text)[1], position, text)

    def test_no_text(self):
        for thing in (None, True, 1, b"<p></p>", ("a",), ["a"], (), {}, Odd(), str, (("text", "a"),)):
            self.assertIsNone(raised(InvalidPage, parse, thing).position)

    def test_pages_cut_off(self):
        for _, page in PAGES:
            for end in range(len(page)):
                if read_page(page[:end])[1] is not None:
                    self.check((page[:end], end))

    def test_elements(self):
        self.check(("<", 1), ("<>", 1), ("< p></p>", 1), ("<p", 2), ("<p>", 3), ("<p></p", 6), ("<p></q>", 5),
                ("<p>a</q>", 6),
                   ("<p><b></p></b>", 8), ("</p>", 1), ("a</p>", 2), ("<p></p></p>", 8), ("<p/>", 2), ("<p ></p>", 3),
                   ("<p></p >", 6), ("<P></P>", 1),
                   ("<pP></pP>", 2), ("<p1></p1>", 2), (f"<{THIRTEEN}></{THIRTEEN}>", 13), ("<p><p></p>", 10),
                   ("<p><</p>", 4),
                   ("<pp></p>", 7), ("<p></pp>", 6), ("<p\n></p>", 2), ("<!p>", 1), ("<p></p><", 8), ("a & b", 3),
                   ("&", 1), ("&am;", 3), ("&quot;", 1),
                   ("&gt;", 1), ("&amp", 4), ("&lt &lt;", 3), ("&LT;", 1))

    def test_attributes(self):
        self.check(("<p a></p>", 4), ("<p a=b></p>", 5), ("<p a='b'></p>", 5), ("<p a=\"b></p>", 8),
                ("<p a=\"b\"c=\"d\"></p>", 8), ("<p a=\"b\" ></p>", 9),
                   ("<p a=\"b\"  c=\"d\"></p>", 9), ("<p a =\"b\"></p>", 4), ("<p a= \"b\"></p>", 5),
                   ("<p =\"b\"></p>", 3), ("<p A=\"b\"></p>", 3),
                   ("<p a=\"<\"></p>", 6), ("<p a=\"&\"></p>", 7), ("<p a=\"&gt;\"></p>", 7),
                   ("<p " + THIRTEEN + "=\"\"></p>", 15),
                   ("<p href=\"\"></p>", 9), ("<p href=\"a\"></p>", 9), ("<p href=\"?a=b\"></p>", 9),
                   ("<p href=\"/?\"></p>", 11),
                   ("<p href=\"/?a\"></p>", 12), ("<p href=\"/?a=b;\"></p>", 15), ("<p href=\"/?a=b&c=d\"></p>", 14),
                   ("<p href=\"/?a=b/c\"></p>", 14),
                   ("<p href=\"/?a=b?c\"></p>", 14), ("<p href=\"/a;b\"></p>", 11), ("<p href=\"/a b\"></p>", 11),
                   ("<p href=\"/~2A\"></p>", 12),
                   ("<p href=\"/~41\"></p>", 12), ("<p href=\"/~2d\"></p>", 12), ("<p href=\"/~\"></p>", 11),
                   ("<p href=\"/?=b\"></p>", 11),
                   ("<p href=\"/?A=b\"></p>", 11), ("<p href=\"/?" + THIRTEEN + "=b\"></p>", 23),
                   ("<p href=\"/&amp;\"></p>", 10))

    def test_literals(self):
        self.check(("<data></data>", 6), ("<data> 1</data>", 6), ("<data>1 </data>", 7), ("<data>1", 7),
                ("<data>1<", 8), ("<data>1</dat>", 12),
                   ("<data>01</data>", 7), ("<data>-0</data>", 7), ("<data>-</data>", 7), ("<data>+1</data>", 6),
                   ("<data>1.0</data>", 7),
                   ("<data>1e3</data>", 7), ("<data>True</data>", 6), ("<data>none</data>", 7),
                   ("<data>nulls</data>", 10), ("<data>tru</data>", 9),
                   ("<data>a</data>", 6), ("<data>'a'</data>", 6), ("<data>\"a</data>", 8), ("<data>\"a\"b</data>", 9),
                   ("<data>\"\n\"</data>", 7),
                   ("<data>\"\\t\"</data>", 8), ("<data>\"\\u0041\"</data>", 8), ("<data>\"<\"</data>", 7),
                   ("<data>\"\\", 8),
                   ("<data>[</data>", 7), ("<data>[1</data>", 8), ("<data>[1,]</data>", 9), ("<data>[,1]</data>", 7),
                   ("<data>[1 ,2]</data>", 8),
                   ("<data>[1, 2]</data>", 9), ("<data>[1;2]</data>", 8), ("<data>(1)</data>", 6),
                   ("<data>[1}</data>", 8), ("<data>[1]]</data>", 9),
                   ("<data>1,2</data>", 7), ("<data>{</data>", 7), ("<data>{a:1}</data>", 7),
                   ("<data>{\"a\"}</data>", 10), ("<data>{\"a\":}</data>", 11),
                   ("<data>{\"a\":1,}</data>", 13), ("<data>{,}</data>", 7), ("<data>{\"a\": 1}</data>", 11),
                   ("<data>{\"a\":1, \"b\":2}</data>", 13),
                   ("<data>{\"\":1}</data>", 8), ("<data>{\"A\":1}</data>", 8), ("<data>{\"a\":1]</data>", 12),
                   ("<data>{\"a\":1}}</data>", 13),
                   ("<data a=\"b\">1</data>", 5), ("<data><p></p></data>", 6), ("<data/>", 5), ("<data>1</data></data>",
                   15))
        self.assertEqual(parse("<data>1</data>>"), (("data", 1), ("text", ">")))

    def test_names_of_fields(self):
        def record(*names):
            return "<data>{" + ",".join(f"\"{name}\":1" for name in names) + "}</data>"
        last, before = "z" * 12, "z" * 11 + "y"
        for names in (("a", "b"), ("a", "aa"), ("ab", "b"), (TWELVE, "b"), ("y", last), (before, last),
                ("a" * 11, "a" * 12), (TWELVE,), ("true",)):
            self.assertEqual(parse(record(*names)), (("data", {name: 1 for name in names}),))
        self.check((record("b", "a"), 14), (record("a", "a"), 15), (record("ab", "a"), 16), (record("ab", "aa"), 16),
                (record("b", "b"), 15),
                   (record("a", "b", "ab"), 20), (record(last, "a"), 23), (record(last, last), 23),
                   (record(before, before), 36),
                   (record(before, "z" * 11), 36), (record(THIRTEEN), 20), (record("a", THIRTEEN), 26),
                   (record(TWELVE, TWELVE), 36),
                   (record("abcdefghijkz", "abcdefghijkz"), 35), (record("abcdefghijkz", "abcdefghijl")[:35], 35),
                   (record("az" + "z" * 10, "az"), 25), (record("a" * 11, "a" * 11), 35), (record("a" * 12, "a" * 12),
                   36))

    def test_many_elements(self):
        def rows(many, row="1"):
            return "[" + ",".join([row] * many) + "]"
        for row in ("1", "null", "[]", rows(60), "{\"a\":" + rows(60) + "}", "[[" + rows(60) + "]]"):
            self.assertEqual(len(parse(f"<data>{rows(60, row)}</data>")[0][1]), 60)
            self.check((f"<data>{rows(61, row)}</data>", 6 + len(rows(60, row)) - 1))
        for ahead, behind in (("[", "]"), ("{\"a\":", "}"), (f"[{rows(60)},", "]"), (f"[{rows(59)},[", ",1]]"),
                (f"{{\"a\":{rows(60)},\"b\":", "}")):
            self.assertEqual(write(parse(f"<data>{ahead}{rows(60)}{behind}</data>")),
                    f"<data>{ahead}{rows(60)}{behind}</data>")
            self.check((f"<data>{ahead}{rows(61)}{behind}</data>", 6 + len(ahead) + len(rows(60)) - 1))

    def test_levels_of_values(self):
        for start, end in (("[", "]"), ("{\"a\":", "}"), ("[1,", ",1]")):
            for inner in ("1", "\"[[\"", "null"):
                page = f"<data>{start * 6}{inner}{end * 6}</data>"
                self.assertEqual(write(parse(page)), page)
            for inner in ("[]", "{}", "[1]", "{\"a\":1}"):
                page = f"<data>{start * 5}{inner}{end * 5}</data>"
                self.assertEqual(write(parse(page)), page)
                self.check((f"<data>{start * 6}{inner}{end * 6}</data>", 6 + 6 * len(start)))
                self.check((f"<data>{start * 6}1,{inner}{end * 6}</data>", 8 + 6 * len(start)) if start[0] == "["
                           else (f"<data>{start * 6}1,\"b\":{inner}{end * 6}</data>", 12 + 6 * len(start)))

    def test_elements_within_each_other(self):
        deep = "<a>" * 30
        self.check((deep + "<a></a>" + "</a>" * 30, 91), (deep + "<b", 91), (deep + "<dat></dat>", 94),
                (deep + "<datas>", 95), (deep + "<", 91),
                   (deep + "a<p>", 92), (deep + "</b>", 92), (deep, 90), (deep + "<data a=\"b\">", 95),
                   ("<b>" + deep, 91),
                   ("<a><a>" + "<a></a>" + "<a>" * 29, 98))
        self.assertEqual(parse(deep + "<data>1</data></a><a>" + "</a>" * 30)[0][1], "a")


if __name__ == "__main__":
    unittest.main()
