"""Points 4, 5, 6 and 9: which writings are types, and what a Type tells of itself."""

import unittest

from shapekeep.errors import InvalidText
from shapekeep.types import Type
from tests.support import raised

TWELVE = "abcdefghijkl"
THIRTEEN = "abcdefghijklm"
LETTERS = "abcdefghij"
HUNDRED = [first + second for first in LETTERS for second in LETTERS]
HUNDRED_FIELDS = "{" + ", ".join(name + ": text" for name in HUNDRED) + "}"

WRITINGS = [
    "text", "number", "flag", "text?", "number?", "flag?", "[text]", "[number]", "[flag]", "[text?]", "[text]?",
    "[text?]?", "[[flag]]", "[[flag]?]", "{a: text}", "{a: text?}", "{a: text}?", "{a: text?, b: [number]?}?",
    "{a: text, b: number, c: flag}", "{text: text}", "{by: number, flag: text, number: flag, text: text}",
    "{a: {a: {a: text}}}", "{a: [text], b: {a: text}}", "[{a: text}]",
    "[{a: text} by a]", "[{a: number} by a]", "[{a: text} by a]?", "[[{a: text} by a]]", "[{by: text} by by]",
    "[{a: flag, b: text} by b]", "[{a: flag?, b: number, c: [text]} by b]", "[{a: text?, b: text} by b]",
    "[{a: [{b: text} by b], c: number} by c]", "{items: [{id: number, name: text?} by id], title: text}",
    "{true: text}", "{false: text, self: text, true: text}", "{" + TWELVE + ": text}",
    "[{" + TWELVE + ": text} by " + TWELVE + "]", "{a: text, ab: text, b: text}", "{ab: text, abc: text}",
    "[[[[[[text]]]]]]", "[[[[[[text?]?]?]?]?]?]?", "{a: {a: {a: {a: {a: {a: text}}}}}}", "[{a: [{a: [{a: text}]}]}]",
    "[{a: [{a: [{a: text} by a], b: text} by b], c: text} by c]", "{a: [[[[[text]]]]], b: [[[[[text]]]]]}",
    HUNDRED_FIELDS, "[" + HUNDRED_FIELDS + " by jj]", "{z: " + HUNDRED_FIELDS + "?}",
]

NO_WRITINGS = [
    "", " ", "\n", "Text", "TEXT", "texts", "tex", "textt", "nUmber", "numbers", "flags", "bool", "str", "list", "a",
    "none", "null", "record", "optional", "keyed", "text text", "text,", "textnumber", "?", "??", "[?]", "1", "%",
    # A question mark behind another one, or where none can stand.
    "text??", "text???", "[text]??", "[text??]", "{a: text??}", "{a: text}??", "?text", "te?xt", "text ?", "[text ?]",
    "{a?: text}", "{a: text?b}", "[{a: text} by a?]", "[{a: text} by a]??",
    # A key that is none.
    "[text by a]", "[[text] by a]", "[number by number]", "[text? by text]", "[flag by a]", "[{b: text} by a]",
    "[{a: text}? by a]", "[{a: flag} by a]", "[{a: text?} by a]", "[{a: number?} by a]", "[{a: [text]} by a]",
    "[{a: {a: text}} by a]", "[{a: {b: text}} by b]", "[[{a: text}] by a]", "[[{a: text} by a] by a]",
    "[{a: text, b: flag} by b]", "[{a: text} by ]", "[{a: text} by]", "[{a: text} by A]", "[{a: text} by aa]",
    "[{a: text} by a by a]", "[{a: text, b: text} by a, b]", "[{a: text, b: text} by a b]", "[by a]", "[ by a]",
    "{a: text by a}", "{a: text} by a", "text by a", "[{a: text} by a", "[{a: text} by \"a\"]",
    # Fields that do not ascend, are there twice, or are missing.
    "{}", "[{}]", "{}?", "{b: text, a: text}", "{a: text, a: text}", "{a: text, a: number}", "{a: text, b: text, a: text}",
    "{a: text, c: text, b: text}", "{ab: text, a: text}", "{b: text, ab: text}", "{a: {b: text, a: text}}",
    "[{b: text, a: text} by a]", "{a: text, a: text, b: text}", "{a: text, b: text, b: text}",
    # Spaces too many, too few or elsewhere.
    " text", "text ", "\ttext", "text\n", "[ text]", "[text ]", "{ a: text}", "{a: text }", "{a : text}", "{a:text}",
    "{a:  text}", "{a: text,b: text}", "{a: text, b:text}", "{a: text,  b: text}", "{a: text , b: text}", "{a:\ntext}",
    "[{a: text}  by a]", "[{a: text} by  a]", "[{a: text}by a]", "[{a: text} bya]", "[{a: text}bya]", "[{a: text} by a ]",
    "[{a: text}\nby a]", "[text] ?", "{a: text} ?", "{a: text,\nb: text}", "[{a: text } by a]",
    # Names that are none.
    "{" + THIRTEEN + ": text}", "[{" + THIRTEEN + ": text} by " + THIRTEEN + "]", "{: text}", "{A: text}", "{aB: text}",
    "{a1: text}", "{1: text}", "{a b: text}", "{a_b: text}", "{a-b: text}", "{a.b: text}", "{\"a\": text}", "{'a': text}",
    "{a: text, : text}", "{a: text, B: text}", "{a: text, " + THIRTEEN + ": text}", "{" + TWELVE + "?: text}",
    # Brackets left out, doubled or crossed.
    "[text", "text]", "[text]]", "[[text]", "[", "]", "[]", "[[]]", "{", "}", "{a", "{a:", "{a: ", "{a: text", "a: text}",
    "{a: text}}", "{{a: text}}", "{{a: text}", "[{a: text]}", "{a: [text}]", "(text)", "<text>", "{a}", "{text}", "{a: }",
    "{a: text, }", "{a: text,}", "{, a: text}", "{a: text b: text}", "{a: text; b: text}", "{a, b: text}", "{a=text}",
    "[text, number]", "[text][text]", "{a: text}{b: text}", "[{a: text} by a]]",
    # Something behind a whole writing.
    "textx", "text.", "text]?", "[text]x", "[text] by a", "{a: text}, b: text", "{a: text}x", "[{a: text} by a]x",
    "text\n", "text?\n", "[text]?text", "number 1",
    # Seven levels.
    "[[[[[[[text]]]]]]]", "[[[[[[{a: text}]]]]]]", "{a: [[[[[[text]]]]]]}", "{a: {a: {a: {a: {a: {a: {a: text}}}}}}}",
    "[{a: [{a: [{a: [text]}]}]}]", "[[[[[[[text?]?]?]?]?]?]?]?", "{a: text, b: [[[[[[text]]]]]], c: text}",
    "[[[[[[{a: text} by a]]]]]]", "[" * 5000, "{a: " * 1000, "[" * 2000 + "text" + "]" * 2000,
]


class Odd:
    """An object of no kind that the program knows."""


NO_TEXTS = [None, True, 1, 0, b"text", ("text",), ("t", "e"), ["text"], {"text": "text"}, {"text"}, (), {}, Odd(), Odd,
            str, Type, Type.read("text")]


def parts_of(whole):
    """Returns a Type and all the Types in it."""
    found = [whole]
    for part in [whole.inner] + [part for _, part in whole.fields]:
        if part is not None:
            found += parts_of(part)
    return found


def short_writings(longest):
    """Returns the writings of all types with fields a and b, made from the inside outwards, up to this length."""
    found = {}
    fresh = [("text", 0, {}), ("number", 0, {}), ("flag", 0, {})]
    while fresh:
        fresh = [(writing, level, keys) for writing, level, keys in fresh
                 if len(writing) <= longest and level <= 6 and writing not in found]
        found.update({writing: (level, keys) for writing, level, keys in fresh})
        fresh = [one for writing, level, keys in fresh for one in wrapped(writing, level, keys)]
        fresh += [(f"{{a: {one}, b: {other}}}", 1 + max(found[one][0], found[other][0]), {"a": one, "b": other})
                  for one in found for other in found if len(one) + len(other) + 10 <= longest]
        fresh = [one for one in fresh if one[0] not in found]
    return found


def wrapped(writing, level, keys):
    """Returns the types that are made of one type."""
    if not writing.endswith("?"):
        yield writing + "?", level, {}
    yield f"[{writing}]", level + 1, {}
    for name, part in keys.items():
        if part in ("text", "number"):
            yield f"[{writing} by {name}]", level + 1, {}
    for name in "ab":
        yield f"{{{name}: {writing}}}", level + 1, {name: writing}


def edits(writing, signs):
    """Returns the texts that differ from this one by one sign put in, left out or replaced."""
    for at in range(len(writing) + 1):
        for sign in signs:
            yield writing[:at] + sign + writing[at:]
            yield writing[:at] + sign + writing[at + 1:]
        yield writing[:at] + writing[at + 1:]


def accepted(text):
    """Tells whether a text is read."""
    try:
        Type.read(text)
    except InvalidText:
        return False
    return True


class ReadTest(unittest.TestCase):
    def test_writings_of_all_kinds(self):
        for writing in WRITINGS:
            with self.subTest(writing):
                found = Type.read(writing)
                self.assertIs(type(found), Type)
                self.assertEqual(str(found), writing)
                self.assertEqual(repr(found), "Type('" + writing + "')")

    def test_what_is_no_writing(self):
        for text in NO_WRITINGS:
            with self.subTest(text):
                self.assertIs(raised(InvalidText, Type.read, text).written, text)

    def test_what_is_no_writing_within_another_one(self):
        for text in NO_WRITINGS:
            for around in (f"[{text}]", f"{{a: {text}}}", f"{{a: text, b: {text}}}", f"[{{a: text, b: {text}}} by a]"):
                # These make a writing together with what may stand around them.
                if text not in ("{a: text}, b: text", "{a: text} by a"):
                    with self.subTest(around):
                        self.assertIs(raised(InvalidText, Type.read, around).written, around)

    def test_what_is_no_text(self):
        for thing in NO_TEXTS:
            with self.subTest(thing):
                self.assertIs(raised(InvalidText, Type.read, thing).written, thing)

    def test_called_at_the_class_and_at_a_type(self):
        one = Type.read("[flag]")
        self.assertEqual(str(one.read("text?")), "text?")
        self.assertEqual(str(one.read(text="{a: text}")), "{a: text}")
        self.assertEqual(str(Type.read(text="number")), "number")
        self.assertEqual(str(one), "[flag]")
        self.assertEqual(raised(InvalidText, one.read, "flags").written, "flags")
        self.assertEqual(raised(InvalidText, Type.read, text=1).written, 1)

    def test_names_of_twelve_and_thirteen_letters(self):
        for name in ("a", "z", TWELVE, "z" * 12):
            self.assertEqual(Type.read(f"{{{name}: text}}").fields[0][0], name)
            self.assertEqual(Type.read(f"[{{{name}: text}} by {name}]").key, name)
        for name in (THIRTEEN, "z" * 13, "z" * 200):
            self.assertFalse(accepted(f"{{{name}: text}}"))
            self.assertFalse(accepted(f"[{{{name}: text}} by {name}]"))
            self.assertFalse(accepted(f"[{{{TWELVE}: text}} by {name}]"))

    def test_six_levels_and_seven(self):
        for levels in range(13):
            with self.subTest(levels):
                self.assertIs(accepted("[" * levels + "text" + "]" * levels), levels <= 6)
                self.assertIs(accepted("{a: " * levels + "text" + "}" * levels), levels <= 6)
                self.assertIs(accepted("[" * levels + "text" + "?]" * levels), levels <= 6)
                self.assertIs(accepted("[{a: " * levels + "text" + "}]" * levels), levels <= 3)
                self.assertIs(accepted("[" * levels + "{a: text}" + "]" * levels), levels <= 5)
                self.assertIs(accepted("{a: text, b: " * levels + "flag" + "}" * levels), levels <= 6)

    def test_all_short_writings_and_what_is_near_to_them(self):
        longest = 18
        found = short_writings(longest)
        self.assertGreater(len(found), 1000)
        for writing in found:
            self.assertEqual(str(Type.read(writing)), writing)
            for text in edits(writing, "[]{}?:, "):
                if len(text) <= longest:
                    self.assertEqual(accepted(text), text in found, text)

    def test_an_error_changes_nothing(self):
        one = Type.read("{a: text}")
        for text in NO_WRITINGS[:20]:
            raised(InvalidText, one.read, text)
        self.assertEqual(repr(one), "Type('{a: text}')")


class PropertiesTest(unittest.TestCase):
    def look(self, found, kind, inner=None, key=None, fields=()):
        self.assertEqual(found.kind, kind)
        self.assertEqual(None if found.inner is None else str(found.inner), inner)
        self.assertEqual(found.key, key)
        self.assertIs(type(found.fields), tuple)
        self.assertEqual(tuple([(name, str(part)) for name, part in found.fields]), fields)

    def test_plain_types(self):
        for kind in ("text", "number", "flag"):
            self.look(Type.read(kind), kind)

    def test_optional_types(self):
        self.look(Type.read("text?"), "optional", "text")
        self.look(Type.read("[text?]?"), "optional", "[text?]")
        self.look(Type.read("{a: text}?"), "optional", "{a: text}")
        self.look(Type.read("[{a: text} by a]?"), "optional", "[{a: text} by a]")

    def test_lists(self):
        self.look(Type.read("[text]"), "list", "text")
        self.look(Type.read("[[flag]?]"), "list", "[flag]?")
        self.look(Type.read("[{a: text}]"), "list", "{a: text}")

    def test_keyed_lists(self):
        self.look(Type.read("[{a: text} by a]"), "keyed", "{a: text}", "a")
        self.look(Type.read("[{a: flag, by: number} by by]"), "keyed", "{a: flag, by: number}", "by")

    def test_records(self):
        self.look(Type.read("{a: text}"), "record", fields=(("a", "text"),))
        self.look(Type.read("{a: [text], ab: {b: flag?}, b: number?}"), "record",
                  fields=(("a", "[text]"), ("ab", "{b: flag?}"), ("b", "number?")))
        self.look(Type.read(HUNDRED_FIELDS), "record", fields=tuple((name, "text") for name in HUNDRED))

    def test_parts_of_parts(self):
        whole = Type.read("{a: [{b: [number?]?, c: text} by c], d: {e: flag}}")
        self.assertEqual([str(part) for part in parts_of(whole)],
                         ["{a: [{b: [number?]?, c: text} by c], d: {e: flag}}", "[{b: [number?]?, c: text} by c]",
                          "{b: [number?]?, c: text}", "[number?]?", "[number?]", "number?", "number", "text",
                          "{e: flag}", "flag"])
        self.assertEqual([part.kind for part in parts_of(whole)],
                         ["record", "keyed", "record", "optional", "list", "optional", "number", "text", "record",
                          "flag"])
        self.assertEqual([part.key for part in parts_of(whole)], [None, "c"] + [None] * 8)

    def test_each_part_is_as_if_it_was_read_alone(self):
        for writing in WRITINGS:
            for part in parts_of(Type.read(writing)):
                alone = Type.read(str(part))
                self.assertIs(type(part), Type)
                self.assertEqual(part, alone)
                self.assertEqual(repr(part), repr(alone))
                self.look(part, alone.kind, None if alone.inner is None else str(alone.inner), alone.key,
                          tuple([(name, str(inner)) for name, inner in alone.fields]))

    def test_kinds_of_answers(self):
        for writing in WRITINGS:
            for part in parts_of(Type.read(writing)):
                self.assertIs(type(part.kind), str)
                self.assertIn(type(part.inner), (Type, type(None)))
                self.assertEqual(part.inner is not None, part.kind in ("list", "keyed", "optional"))
                self.assertIn(type(part.key), (str, type(None)))
                self.assertEqual(part.key is not None, part.kind == "keyed")
                self.assertEqual(part.fields != (), part.kind == "record")
                for pair in part.fields:
                    self.assertIs(type(pair), tuple)
                    self.assertEqual([type(thing) for thing in pair], [str, Type])

    def test_asked_twice_the_same(self):
        for writing in WRITINGS:
            one = Type.read(writing)
            first = (one.kind, one.inner, one.key, one.fields, str(one), repr(one))
            for value in (1, (), {"a": 1}, None):
                one.trouble(value)
                one.trouble((value,))
            self.assertEqual((one.kind, one.inner, one.key, one.fields, str(one), repr(one)), first)

    def test_a_type_is_true_as_a_condition(self):
        for writing in WRITINGS:
            self.assertIs(bool(Type.read(writing)), True)


class EqualityTest(unittest.TestCase):
    def test_types_are_equal_if_their_writings_are(self):
        for at, one in enumerate(WRITINGS):
            for place, other in enumerate(WRITINGS):
                self.assertIs(Type.read(one) == Type.read(other), at == place)
                self.assertIs(Type.read(one) != Type.read(other), at != place)

    def test_wherever_they_come_from(self):
        whole = Type.read("{a: [text?], b: text?}")
        self.assertIs(whole.fields[0][1].inner == whole.fields[1][1], True)
        self.assertIs(whole.fields[0][1] == Type.read("[text?]"), True)
        self.assertIs(whole.fields[0][1] != Type.read("[text?]"), False)

    def test_values_of_other_classes_are_not_equal(self):
        class Alike:
            """Looks like a Type, and is none."""

            kind = "text"
            inner = key = None
            fields = ()
            _writing = "text"

            def __str__(self):
                return "text"

        one = Type.read("text")
        for other in ("text", "Type('text')", None, True, 1, 0, (), ("text",), ["text"], {}, b"text", Type, Alike(), Alike):
            self.assertIs(one == other, False)
            self.assertIs(other == one, False)
            self.assertIs(one != other, True)
            self.assertIs(other != one, True)


if __name__ == "__main__":
    unittest.main()
