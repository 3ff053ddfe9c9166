"""The constants of shapekeep.limits."""

import unittest

from shapekeep import limits

WANTED = {
    "MAX_ELEMENTS": 60,
    "MAX_LEVELS": 6,
    "MAX_NESTED": 30,
    "MAX_TEMPLATES": 40,
    "MAX_NODES": 3000,
    "MAX_DEPTH": 100,
    "MAX_ENTRIES": 100,
}


class LimitsTest(unittest.TestCase):
    def test_each_constant_has_its_value(self):
        for name, number in WANTED.items():
            with self.subTest(name):
                self.assertIs(type(getattr(limits, name)), int)
                self.assertEqual(getattr(limits, name), number)

    def test_there_are_no_other_constants(self):
        self.assertEqual(sorted(name for name in vars(limits) if name.isupper()), sorted(WANTED))


if __name__ == "__main__":
    unittest.main()
