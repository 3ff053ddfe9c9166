"""Points 3 to 5 and the section on pages: texts after patches."""

import random
import unittest

from shapekeep.errors import InvalidPatches, InvalidText
from shapekeep.pages import patched
from tests.support import raised


class Odd:
    """An object of no kind that the program knows."""


class Same:
    """An object that says of itself that it equals anything."""

    def __eq__(self, other):
        return True


NO_TEXTS = [None, True, 1, (), ("a",), [], ["a"], {}, b"abc", Odd(), Same(), str]


class PatchedTest(unittest.TestCase):
    def test_patches(self):
        for text, patches, new in (
                ("", (), ""), ("abc", (), "abc"), ("", ((0, 0, "x"),), "x"), ("abc", ((0, 3, ""),), ""),
                ("abc", ((0, 3, "xyz!"),), "xyz!"), ("abc", ((3, 3, "d"),), "abcd"), ("abc", ((0, 0, "z"),), "zabc"),
                ("abc", ((1, 2, "B"),), "aBc"), ("abc", ((1, 1, "-"),), "a-bc"), ("abc", ((0, 1, ""), (2, 3, "")), "b"),
                ("abc", ((0, 1, ""), (2, 2, "xy")), "bxyc"), ("abc", ((1, 1, "x"), (1, 1, "y"), (1, 2, "z")), "axyzc"),
                # All at once: the places are those of the old text.
                ("abcdef", ((0, 2, "XYZ"), (2, 4, ""), (4, 4, "-"), (5, 6, "F")), "XYZ-eF"),
                ("aaa", ((1, 2, "a"),), "aaa"), ("a\nb", ((1, 2, "\n\n"),), "a\n\nb")):
            self.assertEqual(patched(text, patches), new)
            self.assertEqual(patched(patches=patches, text=text), new)

    def test_texts_and_patches_are_not_modified(self):
        patches = ((0, 1, "b"), (1, 1, "c"))
        self.assertEqual((patched("a", patches), patched("a", patches), patches), ("bc", "bc",
                ((0, 1, "b"), (1, 1, "c"))))

    def test_no_texts(self):
        for thing in NO_TEXTS:
            for patches in ((), None, ((0, 0, "x"),), 5):
                self.assertIs(raised(InvalidText, patched, thing, patches).written, thing)

    def test_no_tuples_of_patches(self):
        for thing in [None, True, 0, "", "abc", [], [(0, 0, "x")], {}, {0: 1}, {(0, 0, "x")}, Odd(), Same()]:
            self.assertIsNone(raised(InvalidPatches, patched, "abc", thing).index)

    def test_what_is_no_patch(self):
        wrong = [None, True, 0, "", "abc", [], [0, 0, "x"], {}, Odd(), Same(), (), (0,), (0, 0), (0, 0, "x", "y"),
                 (0, 1), (True, 1, ""), (0, True, ""), (False, 1, ""), (0, False, "x"), (None, 0, "x"), (0, None, "x"),
                 ("0", 1, "x"), (0, "1", "x"), (0, 1, None), (0, 1, 5), (0, 1, b"x"), (0, 1, ("x",)), (0, 1, ["x"]),
                 (-1, 0, "x"), (-1, 1, "x"), (0, -1, "x"), (1, 0, "x"), (0, 4, "x"), (4, 4, "x"), (3, 4, ""), (0, 0,
                         ""),
                 (1, 1, ""), (3, 3, ""), (0, 10 ** 29, ""), (Same(), 0, "x"), (0, Same(), "x"), (0, 1, Same()),
                 (0, 1, Odd()), ((0,), 1, "x"), ([0], 1, "x"), (0, 0, "x", 0)]
        for thing in wrong:
            self.assertEqual(raised(InvalidPatches, patched, "abc", (thing,)).index, 0)
            self.assertEqual(raised(InvalidPatches, patched, "abc", (thing, thing)).index, 0)
            self.assertEqual(raised(InvalidPatches, patched, "abc", ((0, 0, "x"), thing, None)).index, 1)

    def test_patches_that_go_back(self):
        for patches, index in ((((1, 2, "x"), (0, 1, "y")), 1), (((0, 2, ""), (1, 3, "")), 1),
                (((0, 3, ""), (2, 3, "")), 1),
                (((0, 1, ""), (1, 2, ""), (3, 3, "x"), (2, 3, "")), 3), (((3, 3, "x"), (2, 2, "y")), 1)):
            self.assertEqual(raised(InvalidPatches, patched, "abc", patches).index, index)
        self.assertEqual(raised(InvalidPatches, patched, "", ((0, 1, "x"),)).index, 0)

    def test_drawn_patches(self):
        source = random.Random(1)
        for _ in range(300):
            text = "".join(source.choice("ab") for _ in range(source.randint(0, 8)))
            places = sorted(source.randint(0, len(text)) for _ in range(2 * source.randint(0, 3)))
            patches = [(start, end, source.choice(["", "x", "yz"])) for start, end in zip(places[::2], places[1::2])]
            patches = tuple(patch for patch in patches if patch[0] < patch[1] or patch[2])
            new = text
            for start, end, written in reversed(patches):
                new = new[:start] + written + new[end:]
            self.assertEqual(patched(text, patches), new)


if __name__ == "__main__":
    unittest.main()
