"""Points 4, 13, 14 and 16: the errors of define and replace, their order, and that nothing changes by them."""

import itertools
import unittest

from shapekeep.errors import (InUse, InvalidBody, InvalidName, InvalidTag, InvalidText, Misplaced, MissingTemplate,
                              NameTaken, Ring, TooDeep, TooManyLevels, TooManyNodes, TooManyTemplates)
from shapekeep.library import Library
from tests.support import raised
from tests.test_library import NO_NAMES, shown

PARAMETERS = "{f: flag, k: [{id: number} by id], l: [text], n: number, o: text?, r: {a: text, b: {c: flag?}}, t: text}"


class Odd:
    """An object of no kind that the program knows."""


class Same:
    """An object that says of itself that it equals anything."""

    def __eq__(self, other):
        return True


NO_PARAMETERS = [
    None, True, 0, 1, b"", b"{a: text}", (), ("a",), [], ["a"], {}, {"a": "text"}, Odd(), Same(), str, " ", "text",
    "number?",
    "[text]", "{a: text}?", "[{a: text} by a]", "{}", "{a: text ", "{a:text}",
    "{b: text, a: text}", "{A: text}", "{a: text} ", "{a: text, a: text}", "a: text", "{a}", "-", "None",
    "{true: text}", "{false: text}", "{self: text}", "{a: text, self: flag}", "{false: text, true: number}",
    "{a: text, b: text, true: {a: text}}", "{a: {b: {c: {d: {e: {f: {g: text}}}}}}}", "{abcdefghijklm: text}",
]

# Bodies with a tag that does not fit, and its index.
NO_FIT = [
    # Expressions that have no type.
    ("{= x}", 0), ("a{= x.y}", 1), ("{= t.a}", 0), ("{= r.c}", 0), ("{= o.a}", 0), ("{= sum(t)}", 0),
    ("{= size(n)}", 0), ("{= or_else(t, t)}", 0), ("{= joined(o)}", 0), ("{if x}{end}", 0), ("{if not(n)}{end}", 0),
    ("{for x in y}{end}", 0), ("{for x in r.c}{end}", 0), ("{let x = y}{end}", 0), ("{let x = x}{end}", 0),
    ("{let x = less(t, t)}{end}", 0), ("{= r.b.c.d}", 0), ("{= l.a}", 0), ("{= k.id}", 0),
    # Expressions of another type than the tag wants.
    ("{if t}{end}", 0), ("{if n}{end}", 0), ("{if o}{end}", 0), ("{if l}{end}", 0), ("{if r.b.c}{end}", 0),
    ("{if 1}{end}", 0), ("{if \"true\"}{end}", 0), ("x{if r}{end}", 1), ("{for x in t}{end}", 0),
    ("{for x in n}{end}", 0),
    ("{for x in r}{end}", 0), ("{for x in o}{end}", 0), ("{for x in f}{end}", 0), ("{for x in r.a}{end}", 0),
    ("{for x in l}{for y in x}{end}{end}", 12), ("{for x in k}{for y in x.id}{end}{end}", 12),
    # Templates that are missing, or without a slot.
    ("{use x}", 0), ("{use text}", 0), ("{wrap x}{end}", 0), ("{use t}", 0), ("a{use none}{use x}", 11),
    ("{wrap none}{end}", 0), ("{wrap two a=t b=n}{end}", 0), ("{if f}{wrap none}{end}{end}", 6),
    ("{wrap none}{use x}{end}", 0),
    # Other names than the parameters.
    ("{use two}", 0), ("{use two a=t}", 0), ("{use two b=n}", 0), ("{use two a=t b=n c=n}", 0),
    ("{use two a=t c=n}", 0), ("{use none a=t}", 0), ("{wrap frame a=t}{end}", 0), ("{use two a=t ab=n}", 0),
    ("{use none self=t}", 0), ("{use two a=t b=n self=1}", 0),
    ("{use two a=t true=n}", 0), ("{wrap slotted}{end}", 0), ("{wrap slotted b=t}{end}", 0), ("{use none false=false}",
    0),
    # Values of other types.
    ("{use two a=n b=n}", 0), ("{use two a=t b=t}", 0), ("{use two a=o b=n}", 0), ("{use two a=f b=n}", 0),
    ("{use two a=x b=n}", 0), ("{use two a=t b=x}", 0), ("{wrap slotted a=t}{end}", 0), ("{wrap slotted a=o}{end}", 0),
    ("{use rows a=l}", 0),
    ("{use rows a=r}", 0), ("{use maybe a=n}", 0), ("{use maybe a=f}", 0), ("{use maybe a=r.b.c}", 0),
    ("{use two a=t b=true}", 0), ("{use two a=1 b=1}", 0), ("{use rows a=t}", 0),
    # Variables out of their parts, and hidden ones.
    ("{for x in l}{end}{= x}", 17), ("{let x = t}{end}{= x}", 16), ("{let x = t}{= x}{end}{if x}{end}", 21),
    ("{for x in l}{= y}{end}", 12), ("{let t = l}{= joined(t)}{end}", 11), ("{for t in k}{= joined(t)}{end}", 12),
    ("{let n = t}{= sum(n)}{end}", 11),
    ("{let f = t}{if f}{end}{end}", 11), ("{for l in l}{for y in l}{end}{end}", 12),
    ("{if f}{let x = t}{end}{else}{= x}{end}", 28), ("{let x = t}{let x = n}{end}{= sum(x)}{end}", 27),
    ("{for r in l}{= r.a}{end}", 12),
    ("{let t = t}{let t = f}{end}{if t}{end}{end}", 27),
    # The part of a wrap sees the variables of the place where it is written.
    ("{wrap slotted a=l}{= a}{end}", 18), ("{let x = t}{wrap frame}{= y}{end}{end}", 23),
    ("{wrap slotted a=l}{for x in a}{end}{end}", 18), ("{wrap frame}{let x = t}{end}{= x}{end}", 28),
    ("{wrap frame}{end}{= a}", 17),
    ("{wrap inner a=t}{if z}{end}{end}", 16),
    # The first one counts.
    ("{= t}{= x}{= y}", 5), ("{if f}{= t}{else}{= x}{end}{= y}", 17), ("{use two a=t b=n}{use two}{= x}", 17),
    ("{if t}{= x}{end}", 0), ("{if f}{= x}{end}{use x}", 6), ("{for x in l}{= x.a}{end}{= y}", 12),
    ("{let a = t}{use two a=a b=a}{end}{= b}", 11),
]


def full_library():
    """Returns a library with templates that make others too large, and for each kind of tag."""
    library = Library()
    for name, parameters, body in (
            ("none", "", "x"), ("two", "{a: text, b: number}", "{= a}"), ("frame", "", "<p>{slot}</p>"),
            ("slotted", "{a: [text]}", "{slot}"), ("rows", "{a: [{id: number} by id]}", ""),
            ("maybe", "{a: text?}", ""),
            ("inner", "{a: text}", "{let z = true}{slot}{end}"), ("high", "", "<a>" * 30 + "</a>" * 30),
            ("many", "", "{= 1}" * 500)):
        library.define(name, parameters, body)
    library.define("wide", "", "{use many}" * 5 + "{= 1}" * 495)
    library.define("ta", "", "x")
    for one, other in itertools.pairwise("abcdefghijklm"):
        library.define("t" + other, "", "{if true}" * 7 + "{use t" + one + "}" + "{end}" * 7)
    library.define("tall", "", "{if true}" * 2 + "{use tm}" + "{end}" * 2)
    return library


LARGE = {TooManyLevels: ("<p>{use high}</p>", 31), TooDeep: ("{use tall}", 101), TooManyNodes: ("{use wide}", 3001)}


class DefineTest(unittest.TestCase):
    def setUp(self):
        self.library = full_library()
        self.before = shown(self.library)

    def tearDown(self):
        self.assertEqual(shown(self.library), self.before)

    def test_names(self):
        for thing in NO_NAMES:
            self.assertIs(raised(InvalidName, self.library.define, thing, "", "").called, thing)
        for name in self.library.names:
            self.assertEqual(raised(NameTaken, self.library.define, name, "", "").called, name)

    def test_parameters(self):
        for thing in NO_PARAMETERS:
            self.assertIs(raised(InvalidText, self.library.define, "x", thing, "").written, thing)

    def test_bodies(self):
        for body, position in (("{", 1), ("{x}", 0), ("a}", 1), ("{if f}", 6), ("<p>{end}", 3),
                ("{for true in l}{end}", 0), ("{let self = t}{end}", 0), ("{use two b=n a=t}", 0), ("{= t }", 0),
                ("{= x}{", 6), ("<{", 2)):
            self.assertEqual(raised(InvalidBody, self.library.define, "x", PARAMETERS, body).position, position)
        for thing in (None, 1, True, b"", ("a",), [], Odd()):
            self.assertIsNone(raised(InvalidBody, self.library.define, "x", "", thing).position)
            self.assertIsNone(raised(InvalidBody, self.library.replace, "none", thing).position)

    def test_tags(self):
        for body, position in NO_FIT:
            self.assertEqual(raised(InvalidTag, self.library.define, "x", PARAMETERS, body).position, position, body)
            for more in ("<", "{use high}", "</p>", "{= f}", "<p{= t}"):
                self.assertEqual(raised(InvalidTag, self.library.define, "x", PARAMETERS, body + more).position,
                        position, body)
                if "{= t}" not in more:
                    error = raised(InvalidTag, self.library.define, "x", PARAMETERS, more.replace("{use high}",
                            "") + body)
                    self.assertEqual(error.position, position + len(more.replace("{use high}", "")), body)

    def test_a_template_that_is_defined_is_missing(self):
        self.assertEqual(raised(InvalidTag, self.library.define, "x", "", "a{use x}").position, 1)
        self.assertEqual(raised(InvalidTag, self.library.define, "x", "", "{slot}{wrap x}{end}").position, 6)

    def test_sizes(self):
        for error, (body, found) in LARGE.items():
            self.assertEqual(raised(error, self.library.define, "x", "", body).found, found)

    def test_all_pairs_of_errors(self):
        while len(self.library) < 40:
            many = len(self.library)
            self.library.define("y" * (many % 12 + 1) + "z" * (many // 12 % 2), "", "")
        self.before = shown(self.library)
        steps = [(InvalidName, 0, "A"), (NameTaken, 0, "none"), (InvalidText, 1, "text"), (InvalidBody, 2, "{x}"),
                (InvalidTag, 2, "{= x}"), (Misplaced, 2, "{= true}"), (TooManyTemplates, 2, ""),
                 (TooManyLevels, 2, LARGE[TooManyLevels][0]), (TooDeep, 2, "{use tall}"),
                 (TooManyNodes, 2, "{use wide}")]
        for (error, place, text), (_, other_place, other) in itertools.combinations(steps, 2):
            for order in (1, -1):
                given = ["new", "", ""]
                given[place] += text if place != 0 else ""
                if other_place != place:
                    given[other_place] = other
                elif place == 2:
                    given[2] = "".join([text, other][::order])
                if place == 0:
                    given[0] = text
                found = raised(error if error not in LARGE else TooManyTemplates, self.library.define, *given)
                self.assertEqual(getattr(found, "found", 41), 41)

    def test_the_order_of_sizes(self):
        for (error, (body, found)), (_, (other, _)) in itertools.combinations(LARGE.items(), 2):
            for text in (body + other, other + body, other + "{if true}" + body + "{end}"):
                self.assertGreaterEqual(raised(error, self.library.define, "x", "", text).found, found)

    def test_misplaced_comes_ahead_of_sizes(self):
        for body, _ in LARGE.values():
            self.assertEqual(raised(Misplaced, self.library.define, "x", "", body + "<p>").reason, "end")
            self.assertEqual(raised(InvalidTag, self.library.define, "x", "", body + "<{= x}").position, len(body) + 1)
            self.assertEqual(raised(InvalidBody, self.library.define, "x", "", body + "<{= x}}").position,
                    len(body) + 6)

    def test_forty_templates(self):
        for many in range(40 - len(self.library)):
            self.assertEqual(self.library.define("y" * (many % 12 + 1) + "z" * (many // 12), "", "").body, "")
        self.before = shown(self.library)
        self.assertEqual(len(self.library), 40)
        self.assertEqual(raised(TooManyTemplates, self.library.define, "new", "", "").found, 41)
        raised(NameTaken, self.library.define, "none", "", "")
        self.library.replace("none", "y")
        self.library.remove("y")
        self.assertEqual(self.library.define("new", "", "").name, "new")
        self.assertEqual(raised(TooManyTemplates, self.library.define, "y", "", "").found, 41)
        self.before = shown(self.library)


class ReplaceTest(unittest.TestCase):
    def setUp(self):
        self.library = full_library()
        self.library.define("x", PARAMETERS, "{slot}")
        passed = "f=true k=k l=l n=1 o=\"\" r=r t=\"\""
        self.library.define("user", PARAMETERS, "{use x " + passed + "}")
        self.library.define("wrapper", PARAMETERS, "{wrap x " + passed + "}{end}")
        self.before = shown(self.library)

    def tearDown(self):
        self.assertEqual(shown(self.library), self.before)

    def test_tags(self):
        for body, position in NO_FIT:
            if "{use x}" not in body and "{wrap x}" not in body:
                self.assertEqual(raised(InvalidTag, self.library.replace, "x", "{slot}" + body).position, position + 6,
                        body)

    def test_all_pairs_of_errors(self):
        ring = "{use user f=f k=k l=l n=n o=o r=r t=t}"
        steps = [(InvalidBody, "{x}"), (InvalidTag, "{= x}"), (Misplaced, "{= true}"), (Ring, ring), (InUse, None),
                (TooManyLevels, LARGE[TooManyLevels][0]), (TooDeep, "{use tall}"), (TooManyNodes, "{use wide}")]
        for (error, body), (_, other) in itertools.combinations(steps, 2):
            for parts in ([body, other], [other, body]):
                text = "".join(part for part in parts if part)
                found = raised(error, self.library.replace, "x", text if None in parts else text + "{slot}")
                self.assertEqual(getattr(found, "called", "user" if error is Ring else "wrapper"),
                        "user" if error is Ring else "wrapper")
        raised(MissingTemplate, self.library.replace, "nothing", "{x}")
        raised(InvalidName, self.library.replace, "nothing at all", "{x}")

    def test_sizes_of_the_template_and_of_dependents(self):
        self.library.define("over", PARAMETERS, "<p>{if f}{use user f=f k=k l=l n=n o=o r=r t=t}{= n}{end}</p>")
        self.before = shown(self.library)
        for error, body, found in ((TooManyLevels, "<a>" * 30 + "</a>" * 30, 31), (TooManyLevels, "<p>{use high}</p>",
                32), (TooDeep, "{use tm}", 101), (TooDeep, "{use tall}", 104),
                                   (TooManyNodes, "{use wide}", 3007), (TooManyNodes, "{use many}" * 5 + "{= 1}" * 490,
                                   3001)):
            self.assertEqual(raised(error, self.library.replace, "x", body + "{slot}").found, found)
        self.library.remove("wrapper")
        before = self.library.compilations
        self.library.replace("x", "{use many}" * 5 + "{= 1}" * 489)
        self.library.replace("x", "<a>" * 29 + "</a>" * 29)
        self.library.replace("x", "{use tl}")
        self.assertEqual(self.library.compilations, before + 9)
        self.before = shown(self.library)


if __name__ == "__main__":
    unittest.main()
