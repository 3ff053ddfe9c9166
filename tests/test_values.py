"""Points 3, 5, 7 and 8: names, values, and when two values are the same."""

import unittest

from shapekeep.errors import InvalidValue
from shapekeep.names import is_name
from shapekeep.types import is_value, same
from tests.support import in_lists, in_records, raised, unchanged

ALPHABET = "abcdefghijklmnopqrstuvwxyz"
TWELVE = "abcdefghijkl"
THIRTEEN = "abcdefghijklm"
SIGNS = [chr(code) for code in range(32, 127) if code != 37] + ["\n"]


class Odd:
    """An object of no kind that the program knows."""


# One of each kind, no two of which are the same.
DIFFERENT = [
    None, True, False, 1, 0, -1, 2, 10 ** 29, "", " ", "1", "0", "a", "A", "ab", "\n", "True", "None", "()", "{}",
    (), (None,), (True,), (False,), (1,), (0,), ("",), ("a",), ((),), ({},), (1, 2), (2, 1), (1, True), (True, 1),
    (1, 1), (True, True), ((1,),), ((True,),), {}, {"a": 1}, {"a": True}, {"a": 0}, {"a": False}, {"a": None},
    {"b": 1}, {"a": {}}, {"a": ()}, {"a": ""}, {"a": 1, "b": 2}, {"a": 2, "b": 1}, {"a": 1, "b": True},
    {"a": {"a": (1,)}}, {"a": {"a": (True,)}}, {"a": (1, {"b": (0, False)})}, {"a": (1, {"b": (False, 0)})},
    {"a": (1, {"b": (0, 0)})}, {"a": (True, {"b": (0, False)})},
]

NO_VALUES = [
    [], [1], ["a"], b"", b"a", {1}, set(), frozenset(), frozenset("a"), Odd(), Odd, object(), range(3), len, is_value,
    iter(()), bytearray(b"a"), NotImplemented, ..., ValueError("a"), "%", "100%", "a%b", {"a": "%"}, ("%",),
    {1: 1}, {None: 1}, {True: 1}, {(): 1}, {("a",): 1}, {b"a": 1}, {"": 1}, {"A": 1}, {"aB": 1}, {"a b": 1},
    {"a1": 1}, {"a_": 1}, {"1": 1}, {" a": 1}, {"a\n": 1}, {THIRTEEN: 1}, {"a": 1, 1: 1}, {"a": 1, "B": 1},
    {1: 1, "a": 1, None: 1},
]


class NamesTest(unittest.TestCase):
    def test_names(self):
        for thing in ("a", "z", "ab", "zz", "true", "data", "by", TWELVE, "z" * 12, *ALPHABET):
            self.assertIs(is_name(thing), True, thing)

    def test_no_names(self):
        for thing in ("", THIRTEEN, "z" * 13, "A", "aB", "a b", " a", "a ", "a\n", "\n", "a1", "1", "a-b", "a_b", "`",
                      "{", "a.b", b"a", 1, True, None, ("a",), ["a"], {"a": 1}, Odd(), str):
            self.assertIs(is_name(thing), False, thing)


class IsValueTest(unittest.TestCase):
    def yes(self, thing):
        self.assertIs(unchanged(self, thing, is_value), True, thing)

    def no(self, thing):
        self.assertIs(is_value(thing), False, thing)

    def test_values_of_all_kinds(self):
        for thing in DIFFERENT:
            self.yes(thing)

    def test_what_is_no_value(self):
        for thing in NO_VALUES:
            self.no(thing)

    def test_what_contains_no_value_is_none(self):
        for thing in NO_VALUES:
            for around in ((thing,), (1, thing), (thing, 1), {"a": thing}, {"a": 1, "b": thing}, {"b": (1, {"c": thing})},
                           in_lists(5, thing), in_records(5, thing)):
                self.no(around)

    def test_each_sign_of_a_text(self):
        for sign in SIGNS:
            self.yes(sign)
            self.yes("a" + sign)
            self.yes(sign * 3 + "z")
        self.yes("".join(SIGNS))
        self.yes("a\n\nb\n")
        self.no("".join(SIGNS) + "%")
        self.no("%" + "".join(SIGNS))

    def test_signs_that_no_text_has(self):
        for code in [*range(10), *range(11, 32), 37, 127, 128, 160, 233, 0x20ac, 0xd800, 0x1f600]:
            self.no(chr(code))
            self.no("a" + chr(code))
            self.no(chr(code) + "a\n")

    def test_numbers_of_any_size(self):
        for number in (0, -1, 1, 10 ** 29, -10 ** 29, 2 ** 64):
            self.yes(number)

    def test_kinds_beside_one_another(self):
        self.yes((1, True, 0, False, None, "", (), {}))
        self.yes({"a": 1, "b": True, "c": 0, "d": False, "e": None, "f": "", "g": (), "h": {}})

    def test_at_most_sixty_in_a_list(self):
        self.yes((1,) * 59)
        self.yes((1,) * 60)
        self.no((1,) * 61)
        self.no((1,) * 100)
        self.yes(((),) * 60)
        self.no(((),) * 61)
        self.yes({"a": ((None,) * 60,) * 60})
        self.no({"a": ((None,) * 60,) * 59 + ((None,) * 61,)})

    def test_at_most_six_levels(self):
        for inner in (0, "a", None, True):
            for nest in (in_lists, in_records):
                self.yes(nest(5, inner))
                self.yes(nest(6, inner))
                for levels in range(7, 13):
                    self.no(nest(levels, inner))

    def test_empty_lists_and_records_have_a_level(self):
        for inner in ((), {}):
            for nest in (in_lists, in_records):
                self.yes(nest(5, inner))
                for levels in range(6, 12):
                    self.no(nest(levels, inner))

    def test_levels_of_lists_and_records_together(self):
        self.yes(in_lists(3, in_records(3, 1)))
        self.no(in_lists(3, in_records(4, 1)))
        self.no(in_records(4, in_lists(3, 1)))
        self.yes(in_records(2, in_lists(3, {})))
        self.no(in_records(3, in_lists(3, {})))

    def test_the_deepest_part_counts(self):
        self.yes((1, in_lists(5, 1), ()))
        self.no((1, in_lists(6, 1), ()))
        self.no((in_lists(6, 1), 1))
        self.yes({"a": (), "b": in_lists(5, 1), "c": 1})
        self.no({"a": in_lists(6, 1), "b": 1})

    def test_names_of_records(self):
        self.yes({TWELVE: 1})
        self.no({THIRTEEN: 1})
        self.yes({"true": 1, "self": 2, "data": 3})

    def test_records_may_have_many_names(self):
        hundred = {first + second: 1 for first in ALPHABET[:10] for second in ALPHABET[:10]}
        self.assertEqual(len(hundred), 100)
        self.yes(hundred)
        self.yes({"a": (hundred,)})
        self.no({**hundred, "A": 1})
        self.no({**hundred, 1: 1})

    def test_lists_are_no_tuples(self):
        for thing in ([], [1], ([],), ((), []), {"a": []}, {"a": ([1],)}):
            self.no(thing)

    def test_by_name(self):
        self.assertIs(is_value(thing=(1,)), True)
        self.assertIs(is_value(thing=[1]), False)


class SameTest(unittest.TestCase):
    def test_each_value_is_the_same_as_itself_alone(self):
        for at, one in enumerate(DIFFERENT):
            for place, other in enumerate(DIFFERENT):
                with self.subTest(one=one, other=other):
                    self.assertIs(same(one, other), at == place)

    def test_equal_values_that_are_other_objects(self):
        long = "x" * 4000
        self.assertIs(same((1, {"a": (long,)}), (1, {"a": ("x" * 3999 + "x",)})), True)
        self.assertIs(same(10 ** 29, int("1" + "0" * 29)), True)
        self.assertIs(same((), tuple([])), True)

    def test_the_order_of_keys_means_nothing(self):
        one = {"a": 1, "b": {"c": 2, "d": (3,)}}
        other = {"b": {"d": (3,), "c": 2}, "a": 1}
        self.assertIs(same(one, other), True)
        self.assertIs(same(other, one), True)
        self.assertIs(same({"a": 1, "b": 2}, {"b": 2, "a": 1}), True)
        self.assertIs(same({"a": 1, "b": 2}, {"b": 1, "a": 2}), False)

    def test_true_is_never_one_at_any_depth(self):
        for number, flag in ((1, True), (0, False)):
            for nest in (in_lists, in_records):
                for levels in range(7):
                    one, other = nest(levels, number), nest(levels, flag)
                    self.assertEqual(one, other)
                    self.assertIs(same(one, other), False)
                    self.assertIs(same(other, one), False)
                    self.assertIs(same(one, nest(levels, number)), True)
                    self.assertIs(same(other, nest(levels, flag)), True)

    def test_fields_and_rows_too_many(self):
        for one, other in (({"a": 1}, {"a": 1, "b": 1}), ((1,), (1, 1)), ((), (1,)), ({}, {"a": None}),
                           ({"a": 1}, {"b": 1}), ("a", "ab"), (("a",), ("ab",))):
            self.assertIs(same(one, other), False)
            self.assertIs(same(other, one), False)

    def test_what_is_no_value(self):
        for thing in NO_VALUES + [in_lists(7, 1), (1,) * 61]:
            for value in (1, (), {"a": "b"}):
                self.assertIs(raised(InvalidValue, same, thing, value).value, thing)
                self.assertIs(raised(InvalidValue, same, value, thing).value, thing)
            self.assertIs(raised(InvalidValue, same, thing, thing).value, thing)

    def test_the_first_argument_is_checked_first(self):
        one, other = [1], [2]
        self.assertIs(raised(InvalidValue, same, one, other).value, one)
        self.assertIs(raised(InvalidValue, same, other, one).value, other)
        self.assertIs(raised(InvalidValue, same, other=other, one=one).value, one)

    def test_by_name(self):
        self.assertIs(same(other=1, one=1), True)
        self.assertIs(same(1, other=True), False)
        bad = [1]
        self.assertIs(raised(InvalidValue, same, other=bad, one=1).value, bad)

    def test_nothing_is_modified(self):
        for one in DIFFERENT:
            unchanged(self, one, lambda thing: same(thing, {"b": 1, "a": (1,)}))
            unchanged(self, one, lambda thing: same({"b": 1, "a": (1,)}, thing))


if __name__ == "__main__":
    unittest.main()
