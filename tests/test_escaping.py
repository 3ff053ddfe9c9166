"""Point 12: what values become in each context, and the way back."""

import random
import unittest

from shapekeep.errors import InvalidContext, InvalidText, InvalidValue
from shapekeep.escaping import escape, unescape
from shapekeep.markup import parse
from tests.descent import ITSELF, SIGNS
from tests.growing import Grower
from tests.support import in_lists, in_records, raised, unchanged

CONTEXTS = ("text", "attribute", "part", "query", "data")


class Odd:
    """An object of no kind that the program knows."""


class Same:
    """An object that says of itself that it equals anything."""

    def __eq__(self, other):
        return True


NO_CONTEXTS = [None, True, 0, 1, "", "none", "Text", "texts", "tex", " text", "text ", "name", "tag", "href", "attr",
        "address", "element", "literal",
               b"text", ("text",), ["text"], {"text": "text"}, {"text"}, Odd(), Same(), str, CONTEXTS]

# Contexts, values and their escapes.
ESCAPES = [
    ("text", "", ""), ("text", "a & b", "a &amp; b"), ("text", "<p>", "&lt;p>"), ("text", "\"'>\n\\", "\"'>\n\\"),
    ("text", "&lt;", "&amp;lt;"), ("text", "&amp;amp;", "&amp;amp;amp;"), ("text", "&quot;", "&amp;quot;"),
    ("attribute", "", ""), ("attribute", "a & b", "a &amp; b"), ("attribute", "<p>", "&lt;p>"),
    ("attribute", "\"'>\n\\", "&quot;'>\n\\"),
    ("attribute", "&lt;\"", "&amp;lt;&quot;"), ("attribute", "&quot;", "&amp;quot;"),
    ("part", "", ""), ("part", "Az09-_.", "Az09-_."), ("part", "a/b ~", "a~2fb~20~7e"),
    ("part", "\n?=;&\"<>", "~0a~3f~3d~3b~26~22~3c~3e"),
    ("query", "", ""), ("query", "Az09-_.", "Az09-_."), ("query", "a/b ~", "a~2fb~20~7e"), ("query", "~2f", "~7e2f"),
    ("data", "", "\"\""), ("data", "a\"b\\c\nd<e", "\"a\\\"b\\\\c\\nd\\le\""), ("data", "&>'/", "\"&>'/\""),
    ("data", "\\n", "\"\\\\n\""),
    ("data", "</data>", "\"\\l/data>\""), ("data", "\\l", "\"\\\\l\""),
    ("data", None, "null"), ("data", True, "true"), ("data", False, "false"), ("data", (), "[]"), ("data", {}, "{}"),
    ("data", (1, (True, "a"), None), "[1,[true,\"a\"],null]"), ("data", {"b": None, "a": ("<", 7)},
    "{\"a\":[\"\\l\",7],\"b\":null}"),
    ("data", {"z": 1, "a": {"bb": 2, "b": 3}}, "{\"a\":{\"b\":3,\"bb\":2},\"z\":1}"),
    ("data", (0,) * 60, "[" + "0," * 59 + "0]"),
    ("data", in_lists(6, 1), "[[[[[[1]]]]]]"), ("data", in_records(6, False), "{\"a\":" * 6 + "false" + "}" * 6),
]

# Texts that are the escape of nothing.
NO_ESCAPES = {
    "text": ["<", "a<b", "&", "a&b", "&lt", "&gt;", "&quot;", "&amp", "&&amp;", "&LT;", "&#60;", "</p>", "<p></p>",
    "<data>1</data>", "&amp;&", "a<"],
    "attribute": ["<", "\"", "a\"b", "a\" c=\"d", "&", "&quot", "&gt;", "&apos;", "a&b", "<p>", "&lt", "&#34;", "x\">",
    "\" href=\"/", "\"\""],
    "part": ["a b", "/", "a/b", "?", "a?b=c", "?b=", "=", ";", "&", "~", "~2", "~2F", "~2d", "~41", "~25", "~7f", "~0b",
    "~5f", "~30", "a~", "\"", "a\" href=\"/",
             "a\"", "<", "+", "~~7e", "\n", "~g0", "a~2", ":", "@", "~00", "~80", "/a", "a/"],
    "query": ["a b", "/", "a/b", "?", "=", ";", "a;b=c", "a;b=", ";a=", "&", "~", "~2", "~2F", "~2d", "~41", "~25",
    "~7f", "\"", "a\" href=\"/?b=", "<", "+", "a=b",
              "\n", "a~2", "a?b"],
    "data": ["", " ", "a", "-", "-0", "00", "01", "+1", "1.5", "1 ", " 1", "--1", "True", "none", "nul", "nulll", "\"",
    "\"a", "a\"", "\"a\"b", "\"\n\"", "\"<\"",
             "\"\\t\"", "\"\\\"", "'a'", "[", "]", "[1", "1]", "[1,]", "[,1]", "[1, 2]", "[1 ]", "(1)", "{", "}",
             "{a:1}", "{\"a\"}", "{\"a\":}", "{\"a\":1,}",
             "{\"b\":1,\"a\":2}", "{\"a\":1,\"a\":2}", "{\"A\":1}", "{\"\":1}", "{\"abcdefghijklm\":1}", "{\"a\": 1}",
             "{\"a\":1, \"b\":2}", "{1:1}", "[1}", "{\"a\":1]",
             "[" + "0," * 60 + "0]", "[[[[[[[]]]]]]]", "[[[[[[[1]]]]]]]", "[[[[[[[", "1,2", "1</data><data>2",
             "1</data>", "</data>", "1</data><p></p><data>1",
             "1</data>a<data>1", "null</data>", "<data>1</data>", "{\"a\":" * 7 + "1" + "}" * 7, "12a", "0x1", "1e3"],
}


class EscapeTest(unittest.TestCase):
    def test_escapes_there_and_back(self):
        for context, value, text in ESCAPES:
            self.assertEqual(escape(context, value), text)
            self.assertEqual(escape(value=value, context=context), text)
            self.assertEqual(unescape(text=text, context=context), value)
            self.assertEqual(unescape(context, text), value)

    def test_each_sign(self):
        for sign in SIGNS:
            text = {"&": "&amp;", "<": "&lt;"}.get(sign, sign)
            code = sign if sign in ITSELF else f"~{ord(sign):02x}"
            wanted = (text, "&quot;" if sign == "\"" else text, code, code,
                      "\"" + {"\"": "\\\"", "\\": "\\\\", "\n": "\\n", "<": "\\l"}.get(sign, sign) + "\"")
            for context, escaped in zip(CONTEXTS, wanted):
                self.assertEqual(escape(context, sign), escaped)
                quote = "\"" if context == "data" else ""
                inner = escaped[1:-1] if quote else escaped
                self.assertEqual(escape(context, "a" + sign * 2), quote + "a" + inner * 2 + quote)
                self.assertEqual(unescape(context, escaped), sign)

    def test_numbers(self):
        for number in (0, 1, -1, 7, 10, -205, 999999999999999, 10 ** 29, -10 ** 29):
            for context in CONTEXTS:
                self.assertEqual(escape(context, number), str(number))
                self.assertEqual(repr(unescape(context, str(number))),
                        repr(number if context == "data" else str(number)))

    def test_kinds_of_values(self):
        for text, value in (("1", 1), ("0", 0), ("true", True), ("false", False), ("[true,1]", (True, 1)),
                ("{\"a\":0,\"b\":false}", {"a": 0, "b": False})):
            self.assertEqual(repr(unescape("data", text)), repr(value))
            self.assertEqual(escape("data", value), text)

    def test_texts_that_look_like_literals(self):
        for text in ("null", "[1]", "\"a\"", "true", "-5", "{}", "&quot;"):
            for context in CONTEXTS:
                self.assertEqual(unescape(context, escape(context, text)), text)
        self.assertEqual(escape("text", "null"), "null")

    def test_many_values(self):
        grower = Grower(random.Random(13))
        for _ in range(1500):
            value = grower.value()
            text = unchanged(self, value, lambda value: escape("data", value))
            self.assertEqual(unescape("data", text), value)
            self.assertEqual(escape("data", unescape("data", text)), text)
            self.assertEqual(repr(parse(f"<data>{text}</data>")[0][1]), repr(unescape("data", text)))
            words = grower.text(20)
            for context in CONTEXTS:
                self.assertEqual(unescape(context, escape(context, words)), words)
                spoilt = grower.spoilt(escape(context, words))
                self.check_whatever(context, spoilt)

    def check_whatever(self, context, text):
        """A text is the escape of just what unescape returns, or of nothing."""
        try:
            found = unescape(context, text)
        except InvalidText as error:
            self.assertIs(error.written, text)
        else:
            self.assertEqual(escape(context, found), text)

    def test_texts_that_are_no_escape(self):
        for context, texts in NO_ESCAPES.items():
            for text in texts:
                self.assertIs(raised(InvalidText, unescape, context, text).written, text)
                self.assertIs(raised(InvalidText, unescape, text=text, context=context).written, text)

    def test_no_texts(self):
        for thing in (None, True, 1, b"a", (), ("a",), ["a"], {}, Odd(), str):
            for context in CONTEXTS:
                self.assertIs(raised(InvalidText, unescape, context, thing).written, thing)

    def test_what_does_not_fit_the_context(self):
        for value in (None, True, False, (), (1,), {}, {"a": 1}, [], ["a"], b"a", Odd(), Same(), str, {1}):
            for context in CONTEXTS[:4]:
                self.assertIs(raised(InvalidValue, escape, context, value).value, value)
        for value in ([], ["a"], b"a", Odd(), str, {1}, (1, [2]), {"A": 1}, {1: 1}, {"abcdefghijklm": 1}, (0,) * 61,
                in_lists(7, 1), in_lists(6, {}),
                      in_records(7, 1), ({"a": (Odd(),)},)):
            self.assertIs(raised(InvalidValue, escape, "data", value).value, value)
            self.assertIs(raised(InvalidValue, escape, value=value, context="data").value, value)

    def test_no_contexts(self):
        for context in NO_CONTEXTS:
            for value in ("a", 1, None, True, [], Odd()):
                self.assertIs(raised(InvalidContext, escape, context, value).context, context)
                self.assertIs(raised(InvalidContext, unescape, context, value).context, context)
                self.assertIs(raised(InvalidContext, unescape, text=value, context=context).context, context)


if __name__ == "__main__":
    unittest.main()
