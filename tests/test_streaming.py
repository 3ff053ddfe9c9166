"""Points 2 to 6, 13, 17 and the section on streaming: chunks, and pages of which parameters come late."""

import inspect
import itertools
import random
import unittest

from shapekeep.errors import InvalidSize, MissingTemplate, NotALibrary, NotDone, NotLate, Unfit
from shapekeep.rendering import render
from shapekeep.streaming import Stream, chunks
from tests.runs import Run
from tests.support import raised
from tests.templates import LibraryGrower
from tests.test_library import NO_NAMES, library_of


class Odd:
    """An object of no kind that the program knows."""


class Same:
    """An object that says of itself that it equals anything."""

    def __eq__(self, other):
        return True


class ChunksTest(unittest.TestCase):
    LIBRARY = library_of(("a", "<p>{= t}</p>", "{t: text}"), ("b", ""))

    def test_sizes(self):
        text = "<p>abcdef&lt;</p>"
        for size in range(1, len(text) + 3):
            found = list(chunks(self.LIBRARY, "a", {"t": "abcdef<"}, size))
            self.assertEqual("".join(found), text)
            self.assertEqual({len(piece) for piece in found[:-1]} | {size}, {size})
            self.assertTrue(0 < len(found[-1]) <= size)
        for size in (10 ** 6, 10 ** 29):
            self.assertEqual(list(chunks(size=size, data={"t": ""}, name="a", library=self.LIBRARY)), ["<p></p>"])
        self.assertEqual(list(chunks(self.LIBRARY, "a", {"t": "ab"}, 3)), ["<p>", "ab<", "/p>"])

    def test_a_text_that_is_empty(self):
        for size in (1, 2, 100):
            self.assertEqual(list(chunks(self.LIBRARY, "b", {}, size)), [])

    def test_a_generator(self):
        found = chunks(self.LIBRARY, "a", {"t": "x"}, 4)
        self.assertTrue(inspect.isgenerator(found))
        other = chunks(self.LIBRARY, "a", {"t": "y"}, 4)
        self.assertEqual([next(found), next(other), next(found), next(other)], ["<p>x", "<p>y", "</p>", "</p>"])
        self.assertEqual((list(found), list(other)), ([], []))

    def test_errors(self):
        def first(*given):
            for piece in chunks(*given):
                return piece

        for size in (0, -1, True, False, None, "1", (), (1,), [1], {}, Odd(), Same(), b"1", -10 ** 29):
            for name, data in (("a", {"t": "x"}), ("b", {})):
                self.assertIs(raised(InvalidSize, first, self.LIBRARY, name, data, size).size, size)
            self.assertEqual(raised(Unfit, first, self.LIBRARY, "a", {"t": 1}, size).path, ("t",))
            self.assertEqual(raised(Unfit, first, self.LIBRARY, "b", None, size).path, ())
            self.assertEqual(raised(MissingTemplate, first, self.LIBRARY, "c", None, size).called, "c")
            self.assertEqual(raised(NotALibrary, first, None, "c", None, size).value, None)


def stream_of(body, parameters, data, *late):
    return Stream(library_of(("page", body, parameters)), "page", data, *late)


class PartsTest(unittest.TestCase):
    def test_no_late_parameter(self):
        stream = stream_of("<p>{= a}</p>{if b}x{end}", "{a: text, b: flag}", {"b": True, "a": "<"})
        self.assertEqual((stream.parts, stream.waiting, stream.text, repr(stream)),
                         (("<p>&lt;</p>x",), (), "<p>&lt;</p>x", "Stream(0 gaps)"))
        empty = stream_of("", "", {})
        self.assertEqual((empty.parts, empty.waiting, empty.text), ((), (), ""))
        named = Stream(data={"a": ""}, name="page", library=library_of(("page", "{= a}!", "{a: text}")))
        self.assertEqual((named.parts, named.text), (("!",), "!"))

    def test_one_late_parameter(self):
        stream = stream_of("x{= a}y{= b}{= a}{= a}z", "{a: text, b: text}", {"b": ""}, "a")
        self.assertEqual((stream.parts, stream.waiting, repr(stream)), (("x", 0, "y", 1, 2, "z"), ("a",),
                         "Stream(3 gaps)"))
        self.assertEqual(raised(NotDone, lambda: stream.text).args, ())
        self.assertEqual(stream.fill("a", ""), ((0, ()), (1, ()), (2, ())))
        self.assertEqual((stream.parts, stream.waiting, stream.text, repr(stream)), (("xyz",), (), "xyz",
                         "Stream(0 gaps)"))

    def test_a_late_parameter_that_is_not_read(self):
        stream = stream_of("x{if f}{= a}{end}", "{a: text, f: flag}", {"f": False}, "a")
        self.assertEqual((stream.parts, stream.waiting, stream.text), (("x",), ("a",), "x"))
        self.assertEqual((stream.fill(value="b", name="a"), stream.waiting, stream.text), ((), (), "x"))
        self.assertEqual(raised(NotLate, stream.fill, "a", "b").called, "a")

    def test_gaps_that_wait_for_several(self):
        stream = stream_of("{= joined(a, b)}{= a}{= joined(c, \"-\", c)}{= \"k\"}", "{a: text, b: text, c: text}",
                {}, "c", "a", "b")
        self.assertEqual((stream.parts, stream.waiting), ((0, 1, 2, "k"), ("a", "b", "c")))
        self.assertEqual((stream.fill("a", "A"), stream.parts), (((1, ("A",)),), (0, "A", 2, "k")))
        self.assertEqual((stream.fill("c", "C"), stream.parts), (((2, ("C-C",)),), (0, "AC-Ck")))
        self.assertEqual((stream.fill("b", "<"), stream.parts), (((0, ("A&lt;",)),), ("A&lt;AC-Ck",)))

    def test_expressions_wait_for_all_that_they_read(self):
        # Whether a value would matter is not asked.
        stream = stream_of("{if both(false, f)}x{end}{= or_else(o, t)}{if either(true, f)}{end}",
                "{f: flag, o: text?, t: text}", {"o": "o"}, "f", "t")
        self.assertEqual(stream.parts, (0, 1, 2))
        self.assertEqual(stream.fill("t", "late"), ((1, ("o",)),))
        self.assertEqual(stream.fill("f", True), ((0, ()), (2, ())))

    def test_fields_of_late_parameters(self):
        stream = stream_of("{= r.x}{= s.x}{= size(l)}", "{l: [text], r: {x: text}, s: {x: text}}", {"s": {"x": "s"}},
                "r", "l")
        self.assertEqual(stream.parts, (0, "s", 1))
        self.assertEqual(stream.fill("l", ("a", "b")), ((1, ("2",)),))
        self.assertEqual(stream.fill("r", {"x": "&"}), ((0, ("&amp;",)),))

    def test_ifs_fors_and_lets_wait_with_their_parts(self):
        stream = stream_of("{if f}<b>{= t}</b>{else}{= u}{end}-{for x in l}{= x}{= t}{end}-{let y = t}{= y}{= u}{end}",
                "{f: flag, l: [text], t: text, u: text}", {"u": "U"}, "f", "l", "t")
        self.assertEqual(stream.parts, (0, "-", 1, "-", 2))
        self.assertEqual(stream.fill("l", ("a", "b")), ((1, ("a", 3, "b", 4)),))
        self.assertEqual(stream.parts, (0, "-a", 3, "b", 4, "-", 2))
        self.assertEqual(stream.fill("f", True), ((0, ("<b>", 5, "</b>")),))
        self.assertEqual(stream.parts, ("<b>", 5, "</b>-a", 3, "b", 4, "-", 2))
        self.assertEqual(stream.fill("t", "<"), ((2, ("&lt;U",)), (3, ("&lt;",)), (4, ("&lt;",)), (5, ("&lt;",))))
        self.assertEqual(stream.text, "<b>&lt;</b>-a&lt;b&lt;-&lt;U")

    def test_new_gaps_are_numbered_in_the_order_of_the_page(self):
        stream = stream_of("{if f}{if g}{= t}{end}{end}{if g}{= t}{= t}{end}", "{f: flag, g: flag, t: text}", {}, "f",
                "g", "t")
        self.assertEqual(stream.parts, (0, 1))
        self.assertEqual((stream.fill("f", True), stream.parts), (((0, (2,)),), (2, 1)))
        # The gap 2 stands ahead of the gap 1, so what comes in it has the lesser numbers.
        self.assertEqual((stream.fill("g", True), stream.parts), (((1, (4, 5)), (2, (3,))), (3, 4, 5)))
        self.assertEqual(stream.fill("t", "x"), ((3, ("x",)), (4, ("x",)), (5, ("x",))))

    def test_hidden_variables_are_not_late(self):
        body = ("{let a = \"let\"}{= a}{let b = a}{= b}{end}{end}{for a in l}{= a}{if equal(a, \"1\")}!{end}{end}"
                "{= a}{let a = a}{= a}{end}")
        stream = stream_of(body, "{a: text, b: text, l: [text]}", {"l": ("1", "2")}, "b", "a")
        self.assertEqual(stream.parts, ("letlet1!2", 0, 1))
        self.assertEqual(stream.fill("b", ""), ())
        self.assertEqual(stream.fill("a", "A"), ((0, ("A",)), (1, ("A",))))

    def test_parameters_of_used_templates_are_not_late(self):
        library = library_of(("u", "<u>{= a}{= b}</u>", "{a: text, b: text}"),
                ("page", "{use u a=\"x\" b=c}{use u a=b b=\"y\"}{= a}", "{a: text, b: text, c: text}"))
        stream = Stream(library, "page", {"c": "C"}, "a", "b")
        self.assertEqual(stream.parts, ("<u>xC</u>", 0, 1))
        self.assertEqual(stream.fill("b", "B"), ((0, ("<u>By</u>",)),))
        self.assertEqual(stream.fill("a", "A"), ((1, ("A",)),))
        other = Stream(library, "u", {"b": "B"}, "a")
        self.assertEqual((other.parts, other.fill("a", "x"), other.text),
                         (("<u>", 0, "B</u>"), ((0, ("x",)),), "<u>xB</u>"))

    def test_wraps_and_slots(self):
        library = library_of(("box", "<b>{= a}:{slot}{for x in l}{slot}{= x}{end}</b>", "{a: text, l: [text]}"),
                ("page", "{wrap box a=\"q\" l=l}{= a}{end}{wrap box a=a l=l}{= b}{end}",
                 "{a: text, b: text, l: [text]}"))
        stream = Stream(library, "page", {"l": ("1", "2")}, "a", "b")
        self.assertEqual(stream.parts, ("<b>q:", 0, 1, "1", 2, "2</b>", 3))
        self.assertEqual(stream.fill("a", "A"), ((0, ("A",)), (1, ("A",)), (2, ("A",)), (3, ("<b>A:", 4, 5, "1", 6,
                         "2</b>"))))
        self.assertEqual(stream.fill("b", ""), ((4, ()), (5, ()), (6, ())))
        self.assertEqual(stream.text, "<b>q:AA1A2</b><b>A:12</b>")
        waits = Stream(library, "page", {"a": "A", "b": "B"}, "l")
        self.assertEqual((waits.parts, waits.fill("l", ())), ((0, 1), ((0, ("<b>q:A</b>",)), (1, ("<b>A:B</b>",)))))

    def test_parts_of_wraps_see_the_variables_of_their_place(self):
        library = library_of(("box", "{let a = \"in\"}{slot}{= a}{end}"), ("mid", "{wrap box}{slot}{= a}{end}",
                "{a: text}"),
                ("page", "{wrap box}{= a}{end}{let b = \"B\"}{wrap mid a=b}{= b}{= a}{end}{end}", "{a: text}"))
        stream = Stream(library, "page", {}, "a")
        self.assertEqual(stream.parts, (0, "inB", 1, "Bin"))
        self.assertEqual((stream.fill("a", "A"), stream.text), (((0, ("A",)), (1, ("A",))), "AinBABin"))

    def test_evaluations_without_reads_do_not_wait(self):
        stream = stream_of("{= 1}{if true}{= a}{else}{end}{let x = \"k\"}{= x}{= a}{end}", "{a: text}", {}, "a")
        self.assertEqual(stream.parts, ("1", 0, "k", 1))

    def test_an_empty_list_reaches_nothing(self):
        stream = stream_of("{for x in l}{= a}{end}.", "{a: text, l: [text]}", {"l": ()}, "a")
        self.assertEqual((stream.parts, stream.text), ((".",), "."))
        other = stream_of("{for x in l}{= a}{end}.", "{a: text, l: [text]}", {}, "a", "l")
        self.assertEqual((other.parts, other.fill("l", ()), other.text), ((0, "."), ((0, ()),), "."))

    def test_data_and_fills_are_not_modified(self):
        data, value = {"r": {"x": "1"}}, {"x": "2"}
        stream = stream_of("{= r.x}{= s.x}", "{r: {x: text}, s: {x: text}}", data, "s")
        stream.fill("s", value)
        self.assertEqual((data, value, stream.text), ({"r": {"x": "1"}}, {"x": "2"}, "12"))

    def test_the_library_changes_later(self):
        library = library_of(("u", "u{= a}", "{a: text}"), ("page", "{if f}{use u a=a}{end}{use u a=\"x\"}",
                "{a: text, f: flag}"))
        stream = Stream(library, "page", {"f": True}, "a")
        late = Stream(library, "page", {"a": "y"}, "f")
        library.replace("u", "U{= a}")
        library.replace("page", "")
        library.remove("u")
        library.define("u", "", "other")
        library.remove("page")
        self.assertEqual((stream.fill("a", "z"), stream.text), (((0, ("uz",)),), "uzux"))
        self.assertEqual((late.fill("f", True), late.text), (((0, ("uy",)),), "uyux"))


class StreamErrorsTest(unittest.TestCase):
    LIBRARY = library_of(("page", "{= a}{= b}{for x in c}{= x.id}{end}",
                          "{a: text, b: number, c: [{id: number} by id]}"), ("none", "x"))

    def test_no_library_and_missing_templates(self):
        for thing in (None, 1, "page", {}, Odd(), Same()):
            self.assertIs(raised(NotALibrary, Stream, thing, "no", 1, "zz").value, thing)
        for thing in NO_NAMES + ["no"]:
            self.assertIs(raised(MissingTemplate, Stream, self.LIBRARY, thing, 1, "zz").called, thing)

    def test_what_is_not_late(self):
        for thing in NO_NAMES + ["d", "page", Same()]:
            self.assertIs(raised(NotLate, Stream, self.LIBRARY, "page", 5, thing).called, thing)
            self.assertIs(raised(NotLate, Stream, self.LIBRARY, "page", 5, "a", thing, "zz").called, thing)
            self.assertIs(raised(NotLate, Stream, self.LIBRARY, "none", {}, thing).called, thing)
        self.assertEqual(raised(NotLate, Stream, self.LIBRARY, "page", 5, "a", "b", "a").called, "a")
        self.assertEqual(raised(NotLate, Stream, self.LIBRARY, "page", 5, "c", "b", "b", "c", "b").called, "c")
        self.assertEqual(raised(NotLate, Stream, self.LIBRARY, "page", 5, "c", "b", "b", None).called, "b")
        self.assertEqual(raised(NotLate, Stream, self.LIBRARY, "page", 5, "a", Odd, "a").called, "a")

    def test_data_that_do_not_fit(self):
        for data, late, path in (
                ({}, (), ("a",)), ({"a": "", "b": 1}, (), ("c",)), (None, ("a",), ()), ({"b": 1}, ("a",), ("c",)),
                ({"a": "", "b": 1, "c": ()}, ("a",), ()), ({"b": True, "c": ()}, ("a",), ("b",)),
                ({"b": 1, "c": ({"id": 1}, {"id": 1})}, ("a",), ("c", 1)), ({"a": ""}, ("a", "b", "c"), ()),
                ([], ("a", "b", "c"), ()), ((), ("a", "b", "c"), ()), (None, ("c", "a", "b"), ()),
                ({"c": None}, ("a", "b"), ("c",)), ({"b": 1, "c": [], }, ("a",), ("c",)), ({"z": 1}, ("a", "b"), ())):
            self.assertEqual(raised(Unfit, Stream, self.LIBRARY, "page", data, *late).path, path, data)
        self.assertEqual(raised(Unfit, Stream, self.LIBRARY, "none", {"a": 1}).path, ())
        self.assertEqual(Stream(self.LIBRARY, "page", {}, "a", "b", "c").parts, (0, 1, 2))

    def test_fills_that_fail(self):
        stream = Stream(self.LIBRARY, "page", {"b": 5}, "c", "a")
        for thing in NO_NAMES + ["b", "d", "page", Same()]:
            self.assertIs(raised(NotLate, stream.fill, thing, 5).called, thing)
        for name, value, path in (("a", 1, ("a",)), ("a", None, ("a",)), ("a", Odd(), ("a",)), ("c", "x", ("c",)),
                ("c", ({"id": 1}, {"id": 1}), ("c", 1)), ("c", ({"id": "x"},), ("c", 0, "id")), ("c", [], ("c",)),
                ("c", ({"id": True},), ("c", 0, "id")), ("c", ({"id": 1, "x": 1},), ("c", 0)), ("c", ({},),
                        ("c", 0, "id"))):
            self.assertEqual(raised(Unfit, stream.fill, name, value).path, path)
        self.assertEqual((stream.parts, stream.waiting), ((0, "5", 1), ("a", "c")))
        self.assertEqual(stream.fill("c", ({"id": 1}, {"id": 2})), ((1, ("12",)),))
        self.assertEqual(raised(NotLate, stream.fill, "c", None).called, "c")
        self.assertEqual((stream.parts, stream.waiting, repr(stream)), ((0, "512"), ("a",), "Stream(1 gaps)"))

    def test_equality(self):
        one, other = (Stream(self.LIBRARY, "none", {}) for _ in range(2))
        self.assertTrue(one == one and one != other and not one == other)
        for thing in (None, "x", ("x",), self.LIBRARY):
            self.assertFalse(one == thing)
            self.assertTrue(one != thing)
        self.assertTrue(one)


class DrawnStreamsTest(unittest.TestCase):
    def test_streams_in_any_order(self):
        for seed in range(100):
            grower = LibraryGrower(random.Random(seed))
            library = grower.grow(5)
            for name in library.names:
                data = grower.data(name)
                late = grower.random.sample(sorted(data), grower.random.randint(0, len(data)))
                self.check(library, name, data, late, grower.random)

    def test_all_orders(self):
        library = library_of(("u", "{slot}{= a}{slot}", "{a: text}"), ("page",
                "{wrap u a=a}{if f}{= b}{else}{= a}{end}{end}{for x in l}{if f}{= joined(a, b)}{end}{= x}{end}",
                "{a: text, b: text, f: flag, l: [text]}"))
        for order in itertools.permutations("abfl"):
            for flag in (True, False):
                data = {"a": "A", "b": "", "f": flag, "l": ("1", "2")}
                self.check(library, "page", data, list(order), None)

    def check(self, library, name, data, late, source):
        """Compares all that a stream tells with the runs in which the parameters have not come yet."""
        stream = Stream(library, name, {key: data[key] for key in data if key not in late}, *late)
        numbers = {}
        waiting = list(late)
        if source:
            source.shuffle(waiting)
        parts = self.numbered(Run(library, name, data, waiting).parts, numbers)
        self.assertEqual(stream.parts, parts)
        while waiting:
            self.assertEqual(stream.waiting, tuple(sorted(waiting)))
            gaps = [part for part in stream.parts if not isinstance(part, str)]
            if gaps:
                raised(NotDone, lambda: stream.text)
            self.assertEqual(repr(stream), f"Stream({len(gaps)} gaps)")
            before, called = stream.parts, waiting.pop()
            closed = stream.fill(called, data[called])
            self.assertEqual([number for number, _ in closed], sorted({number for number, _ in closed}))
            self.assertEqual(stream.parts, self.numbered(Run(library, name, data, waiting).parts, numbers))
            self.assertEqual(stream.parts, self.put_together(before, dict(closed)))
            for _, inner in closed:
                self.assertEqual(inner, self.put_together(inner, {}))
        self.assertEqual(stream.text, render(library, name, data))

    def numbered(self, parts, numbers):
        return tuple(part if isinstance(part, str) else numbers.setdefault(part, len(numbers)) for part in parts)

    def put_together(self, parts, closed):
        found = []
        for part in itertools.chain.from_iterable(closed.get(part, (part,)) for part in parts):
            if isinstance(part, str) and found and isinstance(found[-1], str):
                found[-1] += part
            elif part != "":
                found.append(part)
        return tuple(found)


if __name__ == "__main__":
    unittest.main()
