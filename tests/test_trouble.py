"""Points 2, 3, 8, 9 and 10: which values are of a type, and where the others differ from it."""

import unittest

from shapekeep.types import Type, is_value, same
from tests.support import in_lists, in_records, unchanged


class Odd:
    """An object of no kind that the program knows."""


# A type, values of it, and other values with the path of the trouble.
CASES = [
    ("text", ["", "a", "1", "a\nb", " ~", "x" * 5000],
     [(1, ()), (0, ()), (True, ()), (None, ()), ((), ()), (("a",), ()), ({}, ()), (["a"], ()), (b"a", ()), ("a%", ())]),
    ("number", [0, 1, -1, 10 ** 29, -10 ** 29],
     [(True, ()), (False, ()), ("1", ()), ("", ()), (None, ()), ((1,), ()), ({"a": 1}, ()), ([], ()), (b"1", ())]),
    ("flag", [True, False],
     [(1, ()), (0, ()), ("true", ()), ("", ()), (None, ()), ((), ()), ((True,), ()), ({}, ()), ([True], ())]),
    ("text?", [None, "", "a"], [(1, ()), (False, ()), ((), ()), ((None,), ()), ({}, ()), ("%", ())]),
    ("number?", [None, 0, 5], [(True, ()), (False, ()), ("", ()), ((None,), ())]),
    ("flag?", [None, True, False], [(0, ()), (1, ()), ("", ()), ((), ())]),
    ("[text]", [(), ("a",), ("a", "a"), ("",) * 60],
     [(None, ()), ("a", ()), ("", ()), (["a"], ()), ([], ()), ({}, ()), ({"a": "a"}, ()), ({0: "a"}, ()), (1, ()),
      ((1,), (0,)), (("a", 1), (1,)), ((1, 2), (0,)), (("a", None), (1,)), ((("a",),), (0,)), (("",) * 61, ()),
      ((1,) * 61, ()), (("",) * 59 + (1,), (59,)), (("",) * 60 + (1,), ()), (("a", ["a"]), (1,))]),
    ("[number]", [(), (1,), (1, 1), (0, 1, 2)],
     [((True,), (0,)), ((0, False), (1,)), ((1, True), (1,)), ((True, 1), (0,)), (("1",), (0,)), (([1],), (0,))]),
    ("[flag]", [(), (True,), (True, True, False)], [((1,), (0,)), ((True, 1), (1,)), ((True, False, 0), (2,))]),
    ("[text?]", [(), (None,), ("a", None, "b"), (None, None)], [(None, ()), ((1,), (0,)), ((None, 1), (1,))]),
    ("[text]?", [None, (), ("a",)], [("a", ()), ((None,), (0,)), (("a", None), (1,)), (("a",) * 61, ())]),
    ("[[number]]", [(), ((),), ((1,), (), (2, 3))],
     [(1, ()), ((1,), (0,)), (((1,), 2), (1,)), (((1,), (2, "3")), (1, 1)), ((((1,),),), (0, 0)),
      (((1, "a"), 2), (0, 1)), (((), (1,) * 61), (1,)), (((True,),), (0, 0))]),
    ("{a: text}", [{"a": ""}, {"a": "b"}],
     [({}, ("a",)), ({"a": 1}, ("a",)), ({"a": None}, ("a",)), ({"b": "x"}, ()), ({"a": "x", "b": "x"}, ()),
      ({"a": 1, "b": "x"}, ()), ({"a": "x", "b": None}, ()), (None, ()), ("a", ()), (("a",), ()), ((("a", "b"),), ()),
      (["a"], ()), ({"a"}, ()), ({"A": "x"}, ()), ({1: "x"}, ()), ({"a": "x", 1: "x"}, ()), ({1: "x", "a": "x"}, ()),
      ({"a": "x", None: 1, 2: 3, (): 4, b"a": 5}, ()), ({"a": "x", "": 1}, ()), ({"a": "x", "A": 1}, ()),
      ({b"a": "x"}, ()), ({"a": {"a": "x"}}, ("a",)), ({"a": ["x"]}, ("a",))]),
    ("{a: text?}", [{"a": None}, {"a": "b"}], [({}, ("a",)), ({"a": 1}, ("a",)), (None, ()), ({"b": None}, ())]),
    ("{a: text}?", [None, {"a": "x"}], [({}, ("a",)), ({"a": None}, ("a",)), ((), ()), ({"a": "x", "b": 1}, ())]),
    ("{a: number, b: flag, c: text}",
     [{"a": 1, "b": True, "c": ""}, {"c": "", "b": False, "a": 0}],
     [({"a": 1, "b": True}, ("c",)), ({"a": 1, "c": ""}, ("b",)), ({"b": True, "c": ""}, ("a",)), ({}, ("a",)),
      ({"c": 1}, ("a",)), ({"a": 1, "c": 1}, ("b",)), ({"a": "", "c": 1}, ("a",)), ({"c": 1, "b": 1, "a": 1}, ("b",)),
      ({"a": True, "b": 1, "c": 1}, ("a",)), ({"a": 1, "b": 1, "c": ""}, ("b",)), ({"a": 1, "b": True, "c": 1}, ("c",)),
      ({"a": 1, "b": True, "c": "", "d": 1}, ()), ({"a": "", "b": "", "d": 1}, ()), ({"d": 1}, ()),
      ({"c": 1, "b": True}, ("a",)), ({"a": 0, "b": 0, "c": ""}, ("b",))]),
    ("{a: {b: number}, c: [text]}",
     [{"a": {"b": 1}, "c": ()}, {"c": ("x", "y"), "a": {"b": 0}}],
     [({"a": {}, "c": ()}, ("a", "b")), ({"a": {"b": True}, "c": ()}, ("a", "b")), ({"a": 1, "c": 1}, ("a",)),
      ({"a": {"b": 1, "c": 1}, "c": ()}, ("a",)), ({"a": {"b": 1}, "c": ("x", 1)}, ("c", 1)),
      ({"a": {"b": 1}, "c": ("x", 1, 2)}, ("c", 1)), ({"a": {"b": 1}, "c": 1}, ("c",)), ({"a": {"b": 1}}, ("c",)),
      ({"a": {"c": 1}}, ("a",)), ({"a": {"b": 1}, "c": (["x"],)}, ("c", 0)), ({"a": {1: 1}, "c": ()}, ("a",))]),
    ("[{a: text}]", [(), ({"a": "x"}, {"a": "x"}), ({"a": "x"},) * 60],
     [(({"a": "x"}, {"a": 1}), (1, "a")), (({"a": "x"}, {}), (1, "a")), (({"a": "x"}, {"b": "x"}), (1,)),
      (({"a": "x"}, None), (1,)), (({"a": "x"},) * 61, ())]),
    ("[{a: text} by a]", [(), ({"a": "x"},), ({"a": "x"}, {"a": "y"}, {"a": ""}, {"a": "X"})],
     [(({"a": "x"}, {"a": "x"}), (1,)), (({"a": "x"}, {"a": "y"}, {"a": "x"}), (2,)),
      (({"a": "x"}, {"a": "y"}, {"a": "y"}, {"a": "x"}), (2,)), (({"a": ""}, {"a": ""}), (1,)),
      (({"a": "x"}, {"a": "x"}, {"a": 1}), (1,)), (({"a": "x"}, {"a": 1}, {"a": "x"}), (1, "a")),
      (({"a": 1}, {"a": 1}), (0, "a")), ((None, None), (0,)), (({"a": "x"}, {"a": "x", "b": 1}), (1,)), (None, ()),
      (({"a": "x"},) * 61, ()), (({"a": "x"},) * 60, (1,)), (({}, {}), (0, "a")), ([{"a": "x"}], ())]),
    ("[{id: number, name: text?} by id]",
     [(), ({"id": 1, "name": None}, {"id": 0, "name": None}), tuple({"id": at, "name": "x"} for at in range(60))],
     [(({"id": 1, "name": None}, {"id": 1, "name": None}), (1,)),
      (({"id": 1, "name": None}, {"id": 1, "name": 5}), (1, "name")),
      (({"id": 1, "name": None}, {"id": True, "name": None}), (1, "id")),
      (({"id": 0, "name": None}, {"id": False, "name": None}), (1, "id")),
      (({"id": 1, "name": 5}, {"id": 1, "name": None}), (0, "name")),
      (({"id": 1, "name": None}, {"id": 2, "name": None}, {"id": 1, "name": None}, {"id": 3}), (2,)),
      (({"id": 1, "name": None}, {"id": 2}, {"id": 1, "name": None}), (1, "name")),
      (({"name": None}, {"name": None}), (0, "id")), (({"id": 1, "name": None}, {"id": 1}), (1, "name")),
      (tuple({"id": at, "name": "x"} for at in range(61)), ()),
      (tuple({"id": at if at < 59 else 0, "name": "x"} for at in range(60)), (59,))]),
    ("[{a: [{b: text} by b], c: number} by c]",
     [(), ({"a": ({"b": "x"},), "c": 1}, {"a": ({"b": "x"},), "c": 2})],
     [(({"a": ({"b": "x"}, {"b": "x"}), "c": 1},), (0, "a", 1)),
      (({"a": (), "c": 1}, {"a": ({"b": "x"}, {"b": "x"}), "c": 1}), (1, "a", 1)),
      (({"a": (), "c": 1}, {"a": ({"b": "x"},), "c": 1}), (1,)), (({"a": None, "c": 1}, {"a": (), "c": 1}), (0, "a"))]),
    ("{a: [{b: text} by b], c: [{b: text} by b]}", [{"a": ({"b": "x"},), "c": ({"b": "x"},)}],
     [({"a": ({"b": "x"}, {"b": "x"}), "c": 1}, ("a", 1)), ({"a": (), "c": ({"b": "x"}, {"b": "x"})}, ("c", 1))]),
    ("[[[[[[text]]]]]]", [(), in_lists(5, ()), in_lists(6, "a")],
     [(in_lists(6, ()), (0,) * 6), (in_lists(6, 1), (0,) * 6), (in_lists(5, "a"), (0,) * 5), (in_lists(7, "a"), (0,) * 6),
      (in_lists(12, "a"), (0,) * 6), ("a", ())]),
    ("{a: {a: {a: {a: {a: {a: number}}}}}}", [in_records(6, 1)],
     [(in_records(6, True), ("a",) * 6), (in_records(5, 1), ("a",) * 5), (in_records(7, 1), ("a",) * 6),
      (in_records(12, 1), ("a",) * 6), ({}, ("a",)), (in_records(3, {}), ("a",) * 4), (in_records(3, {"b": 1}), ("a",) * 3)]),
]

NO_VALUES = [[], [1], ["a"], b"", b"a", {1}, set(), frozenset(), Odd(), Odd, object(), range(2), len, iter(()), ...,
             bytearray(b"a"), "100%", {1: 1}, {None: 1}, {True: 1}, {("a",): 1}, {b"a": 1}, {"": 1}, {"A": 1}, {"a1": 1},
             {"abcdefghijklm": 1}, {1: 1, "a": 1, None: 1}, in_lists(7, 1), in_lists(12, "a"), in_records(7, 1), (1,) * 61,
             Type.read("text")]

WIDE = "{a: [{b: number, c: text?} by b], d: {e: flag, f: [[text]]}, g: number?, h: [{i: [flag], j: {k: text}}]}"
WIDE_VALUE = {
    "h": ({"i": (True, False), "j": {"k": "x"}}, {"j": {"k": "y"}, "i": ()}),
    "a": ({"b": 1, "c": "x"}, {"c": None, "b": 0}, {"b": 2, "c": ""}),
    "g": 5,
    "d": {"f": (("x", "y"), (), ("z",)), "e": True},
}


def paths_of(value):
    """Returns the paths of all parts, each part before what it contains."""
    found = [()]
    if isinstance(value, tuple):
        for index, part in enumerate(value):
            found += [(index,) + path for path in paths_of(part)]
    if isinstance(value, dict):
        for name in sorted(value):
            found += [(name,) + path for path in paths_of(value[name])]
    return found


def part_at(value, path):
    """Returns the value at a path."""
    for step in path:
        value = value[step]
    return value


def with_part(value, path, part):
    """Returns the value with another part at the path."""
    if path == ():
        return part
    changed = with_part(value[path[0]], path[1:], part)
    if isinstance(value, tuple):
        return value[:path[0]] + (changed,) + value[path[0] + 1:]
    return {**value, path[0]: changed}


class CasesTest(unittest.TestCase):
    def test_values_of_the_type(self):
        for writing, good, _ in CASES:
            wanted = Type.read(writing)
            for value in good:
                with self.subTest(writing, value=value):
                    self.assertIs(unchanged(self, value, wanted.trouble), None)
                    self.assertIs(unchanged(self, value, lambda thing: thing in wanted), True)
                    self.assertIs(value not in wanted, False)
                    self.assertIs(is_value(value), True)

    def test_other_values(self):
        for writing, _, bad in CASES:
            wanted = Type.read(writing)
            for value, path in bad:
                with self.subTest(writing, value=value):
                    found = unchanged(self, value, wanted.trouble)
                    self.assertIs(type(found), tuple)
                    self.assertEqual(repr(found), repr(path))
                    self.assertIs(unchanged(self, value, lambda thing: thing in wanted), False)
                    self.assertIs(value not in wanted, True)

    def test_a_value_is_in_the_type_exactly_if_there_is_no_trouble(self):
        things = [value for _, good, bad in CASES for value in good + [value for value, _ in bad]] + NO_VALUES
        for writing, _, _ in CASES:
            wanted = Type.read(writing)
            for thing in things:
                self.assertIs(thing in wanted, wanted.trouble(thing) is None)

    def test_what_is_in_a_type_is_in_the_types_made_of_it(self):
        for writing, good, bad in CASES:
            for value, path in [(value, None) for value in good] + bad:
                self.around(writing, value, path)

    def around(self, writing, value, path):
        """Checks the type and the value within others, one more level being left for them or not."""
        made = [(f"[{writing}]", (value,), (0,)), (f"{{a: {writing}}}", {"a": value}, ("a",))]
        if writing.count("[") + writing.count("{") == 6:
            made = []
        if not writing.endswith("?"):
            made += [(writing + "?", value, ())] if value is not None else []
        for whole, around, ahead in made:
            with self.subTest(whole, value=around):
                self.assertEqual(Type.read(whole).trouble(around), None if path is None else ahead + path)
                self.assertIs(around in Type.read(whole), path is None)

    def test_none_is_in_every_optional_type_and_in_no_other(self):
        for writing, _, _ in CASES:
            self.assertIs(None in Type.read(writing), writing.endswith("?"))
            if not writing.endswith("?"):
                self.assertIs(None in Type.read(writing + "?"), True)
                self.assertIs(Type.read(writing + "?").trouble(None), None)

    def test_what_is_no_value(self):
        for thing in NO_VALUES:
            for writing in ("text", "number", "flag", "text?"):
                self.assertIs(thing in Type.read(writing), False)
                self.assertEqual(Type.read(writing).trouble(thing), ())
                self.assertEqual(Type.read(f"[{writing}]").trouble((thing,)), (0,))
                self.assertEqual(Type.read(f"{{a: {writing}}}").trouble({"a": thing}), ("a",))
                self.assertEqual(Type.read(f"{{a: text, b: {writing}}}").trouble({"b": thing}), ("a",))
                self.assertEqual(Type.read(f"{{a: text, b: {writing}}}").trouble({"b": thing, "a": ""}), ("b",))

    def test_by_name(self):
        self.assertEqual(Type.read("[text]").trouble(value=("a", 1)), (1,))
        self.assertIs(Type.read("[text]").trouble(value=("a",)), None)

    def test_example_of_the_document(self):
        rows = Type.read("{rows: [{id: number, name: text?} by id], title: text}")
        good = {"title": "A", "rows": ({"id": 1, "name": None}, {"id": 2, "name": "x"})}
        bad = {"title": "A", "rows": ({"id": 1, "name": None}, {"id": 1, "name": 5})}
        found = [good in rows, rows.trouble(bad), rows.trouble({"title": "A"}), rows.fields[0][1].key, same(1, True),
                 same({"a": 1, "b": 2}, {"b": 2, "a": 1})]
        self.assertEqual(found, [True, ("rows", 1, "name"), ("rows",), "id", False, True])


class WideTest(unittest.TestCase):
    def setUp(self):
        self.wanted = Type.read(WIDE)
        self.paths = paths_of(WIDE_VALUE)

    def test_the_value_is_of_the_type(self):
        self.assertIs(WIDE_VALUE in self.wanted, True)
        self.assertIs(self.wanted.trouble(WIDE_VALUE), None)
        self.assertEqual(len(self.paths), 32)

    def test_one_wrong_part(self):
        for path in self.paths:
            for part in (Odd(), ["x"], b"x", "%", {1: 2}, (1,) * 61):
                value = with_part(WIDE_VALUE, path, part)
                self.assertEqual(repr(self.wanted.trouble(value)), repr(path))
                self.assertIs(value in self.wanted, False)

    def test_the_first_of_two_wrong_parts(self):
        for at, path in enumerate(self.paths):
            for later in self.paths[at + 1:]:
                if later[:len(path)] != path:
                    value = with_part(with_part(WIDE_VALUE, later, Odd()), path, Odd())
                    self.assertEqual(repr(self.wanted.trouble(value)), repr(path))

    def test_a_true_for_a_one(self):
        for path in self.paths:
            part = part_at(WIDE_VALUE, path)
            if isinstance(part, int):
                value = with_part(WIDE_VALUE, path, int(part) if isinstance(part, bool) else bool(part))
                self.assertEqual(repr(self.wanted.trouble(value)), repr(path))
                self.assertIs(value in self.wanted, False)

    def test_a_field_left_out(self):
        for path in self.paths:
            if path and isinstance(path[-1], str):
                record = dict(part_at(WIDE_VALUE, path[:-1]))
                del record[path[-1]]
                self.assertEqual(self.wanted.trouble(with_part(WIDE_VALUE, path[:-1], record)), path)

    def test_a_field_put_in(self):
        for path in self.paths:
            record = part_at(WIDE_VALUE, path)
            if isinstance(record, dict):
                for name in ("aa", "zz", "A", "", 1, None, True, ("a",)):
                    value = with_part(WIDE_VALUE, path, {**record, name: None})
                    self.assertEqual(self.wanted.trouble(value), path)
                    value = with_part(WIDE_VALUE, path, {name: None, **{field: Odd() for field in record}})
                    self.assertEqual(self.wanted.trouble(value), path)

    def test_the_order_of_keys_means_nothing(self):
        turned = {name: WIDE_VALUE[name] for name in reversed(WIDE_VALUE)}
        self.assertIs(self.wanted.trouble(turned), None)
        for first in WIDE_VALUE:
            for second in WIDE_VALUE:
                for order in (turned, WIDE_VALUE):
                    value = {name: Odd() if name in (first, second) else order[name] for name in order}
                    self.assertEqual(self.wanted.trouble(value), (min(first, second),))

    def test_a_key_twice(self):
        for keys, path in (((1, 0, 1), ("a", 2)), ((0, 0, 0), ("a", 1)), ((2, 0, 0), ("a", 2)), ((1, 1, 2), ("a", 1))):
            rows = tuple({"b": key, "c": None} for key in keys)
            self.assertEqual(self.wanted.trouble({**WIDE_VALUE, "a": rows}), path)
            self.assertEqual(self.wanted.trouble({**WIDE_VALUE, "a": rows, "d": None}), path)
            self.assertEqual(self.wanted.trouble({**WIDE_VALUE, "a": rows + (None,)}), path)
            self.assertEqual(self.wanted.trouble({**WIDE_VALUE, "a": (None,) + rows}), ("a", 0))

    def test_many_fields(self):
        letters = "abcdefghij"
        names = [first + second for first in letters for second in letters]
        wanted = Type.read("{" + ", ".join(name + ": number" for name in names) + "}")
        value = {name: at for at, name in enumerate(reversed(names))}
        self.assertIs(value in wanted, True)
        for name in names:
            self.assertEqual(wanted.trouble({**value, name: True}), (name,))
            self.assertEqual(wanted.trouble({field: value[field] for field in value if field != name}), (name,))
        self.assertEqual(wanted.trouble({**value, "zz": 1}), ())


if __name__ == "__main__":
    unittest.main()
