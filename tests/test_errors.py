"""Point 4 and the section on errors: fields, base classes, nothing else."""

import unittest

from shapekeep import errors

SHAPE = {
    "InvalidName": ("called",),
    "InvalidText": ("written",),
    "InvalidValue": ("value",),
    "InvalidTree": ("value",),
    "InvalidContext": ("context",),
    "InvalidPage": ("position",),
    "InvalidBody": ("position",),
    "InvalidTag": ("position",),
    "Misplaced": ("position", "reason"),
    "InvalidPlan": ("value",),
    "InvalidPass": ("index",),
    "InvalidPatches": ("index",),
    "InvalidSize": ("size",),
    "InvalidAction": ("index",),
    "InvalidCommand": ("command",),
    "NotALibrary": ("value",),
    "TypeTrouble": ("part",),
}
STATE = {
    "NameTaken": ("called",),
    "MissingTemplate": ("called",),
    "InUse": ("called",),
    "Ring": ("called",),
    "Unfit": ("path",),
    "NoSuchPath": ("path",),
    "NotLate": ("called",),
    "NotDone": (),
    "Busy": (),
    "NothingToUndo": (),
}
SIZE = {
    "TooManyTemplates": ("found",),
    "TooManyLevels": ("found",),
    "TooManyNodes": ("found",),
    "TooManyElements": ("found",),
    "TooManyEntries": ("found",),
    "TooDeep": ("found",),
}
FAMILIES = (("ShapeError", ValueError, SHAPE), ("StateError", LookupError, STATE), ("SizeError", ArithmeticError, SIZE))
ROOTS = (ValueError, LookupError, ArithmeticError)
BASES = tuple(base for base, _, _ in FAMILIES)


class Odd:
    """An object of no kind that the program knows."""


def each_error():
    """Goes through all errors: name, fields, name of the own base class, Python's base class."""
    for base, root, family in FAMILIES:
        for name, fields in family.items():
            yield name, fields, base, root


def any_values():
    """Returns values of many kinds, which an error keeps as they are."""
    return (None, True, 1, 0, False, -7, "", "a\nb", "100%", b"x", (), ("a", 0), [1, [2]], {"a": [1]}, {1: 2}, {3},
            Odd(), Odd, ValueError("x"), 10 ** 40)


class ErrorsTest(unittest.TestCase):
    def test_all_errors_are_there_and_no_others(self):
        found = [name for name, thing in vars(errors).items() if isinstance(thing, type)]
        wanted = [name for name, _, _, _ in each_error()] + list(BASES)
        self.assertEqual(sorted(found), sorted(wanted))
        self.assertEqual(len(wanted), 36)

    def test_fields_by_position(self):
        for name, fields, _, _ in each_error():
            for value in any_values():
                with self.subTest(name, value=value):
                    given = [value] + [Odd() for _ in fields[1:]]
                    self.keeps(getattr(errors, name)(*given[:len(fields)]), fields, given)

    def test_fields_by_name(self):
        for name, fields, _, _ in each_error():
            for value in any_values():
                with self.subTest(name, value=value):
                    given = [value] + [Odd() for _ in fields[1:]]
                    self.keeps(getattr(errors, name)(**dict(zip(fields, given))), fields, given)

    def keeps(self, error, fields, given):
        self.assertEqual(sorted(vars(error)), sorted(fields))
        for field, value in zip(fields, given):
            self.assertIs(getattr(error, field), value)

    def test_two_fields_in_their_order(self):
        for value in any_values():
            error = errors.Misplaced(value, "hole")
            self.assertIs(error.position, value)
            self.assertEqual(error.reason, "hole")
            error = errors.Misplaced(reason=value, position=3)
            self.assertIs(error.reason, value)
            self.assertEqual(error.position, 3)

    def test_a_field_is_not_left_out_and_there_is_no_other_one(self):
        for name, fields, _, _ in each_error():
            made = getattr(errors, name)
            with self.subTest(name):
                self.assertRaises(TypeError, made, *range(len(fields) + 1))
                self.assertRaises(TypeError, made, **{field: 1 for field in fields + ("other",)})
                if fields:
                    self.assertRaises(TypeError, made, *range(len(fields) - 1))

    def test_errors_without_a_field(self):
        for made in (errors.NotDone, errors.Busy, errors.NothingToUndo):
            self.assertEqual(vars(made()), {})

    def test_an_error_is_of_its_class_and_its_listed_bases_alone(self):
        own = [name for name, _, _, _ in each_error()] + list(BASES)
        for name, fields, base, root in each_error():
            error = getattr(errors, name)(*fields)
            with self.subTest(name):
                self.assertEqual([other for other in own if isinstance(error, getattr(errors, other))],
                                 [other for other in own if other in (name, base)])
                self.assertEqual([other for other in ROOTS if isinstance(error, other)], [root])
                self.assertEqual(type(error).__mro__[:3], (type(error), getattr(errors, base), root))

    def test_own_base_classes(self):
        for base, root, _ in FAMILIES:
            self.assertEqual(getattr(errors, base).__bases__, (root,))

    def test_an_error_is_raised_and_caught_by_its_bases(self):
        for name, fields, base, root in each_error():
            for caught in (getattr(errors, name), getattr(errors, base), root):
                with self.subTest(name, caught=caught):
                    error = getattr(errors, name)(*fields)
                    with self.assertRaises(caught) as held:
                        raise error
                    self.assertIs(held.exception, error)


if __name__ == "__main__":
    unittest.main()
