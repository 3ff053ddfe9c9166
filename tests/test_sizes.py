"""Points 11 and 14 and the sections on define and plans: levels, depths and numbers of nodes, and their limits."""

import random
import unittest

from shapekeep.errors import TooDeep, TooManyLevels, TooManyNodes
from shapekeep.library import Library
from shapekeep.plans import count_nodes, plan_of
from shapekeep.rendering import render
from tests.second import Expansion, depth_of, nodes_of
from tests.support import raised
from tests.templates import LibraryGrower


def nested(levels, inner="", name="a"):
    return f"<{name}>" * levels + inner + f"</{name}>" * levels


def library_of(*bodies):
    """Returns a library with templates without parameters, called a, b and so on."""
    library = Library()
    for at, body in enumerate(bodies):
        library.define("abcdefghijklmnopqrstuvwxyz"[at], "", body)
    return library


class LevelsTest(unittest.TestCase):
    def check(self, body, found, *others):
        library = library_of(*others)
        expansion = Expansion({**{name: library[name].body for name in library.names}, "z": body})
        expansion.levels(expansion.nodes["z"])
        self.assertEqual(expansion.most, found)
        if found > 30:
            self.assertEqual(raised(TooManyLevels, library.define, "z", "", body).found, found, body)
            self.assertEqual(library.compilations, len(others))
        else:
            library.define("z", "", body)
            library.define("y", "", nested(30 - found, "{use z}"))
            self.assertEqual(raised(TooManyLevels, library.define, "x", "", nested(31 - found, "{use z}")).found, 31)

    def test_uses(self):
        self.check(nested(30), 30)
        self.check(nested(10, "{use a}"), 30, nested(20))
        self.check(nested(11, "{use a}"), 31, nested(20))
        self.check(nested(30, "{use a}"), 60, nested(30))
        self.check(nested(30, "{use a}"), 30, "x")
        self.check(nested(10, "{use b}"), 30, nested(10), nested(10, "{use a}"))
        self.check(nested(11, "{use b}"), 31, nested(10), nested(10, "{use a}"))
        self.check(nested(3) + nested(20, "{use a}") + nested(5, "{use a}"), 28, nested(8))
        self.check("{use a}" + nested(5, "{use a}") + nested(25), 30, nested(25))

    def test_all_parts_are_written(self):
        self.check(nested(20, "{if false}{use a}{end}"), 31, nested(11))
        self.check(nested(20, "{if true}x{else}{use a}{end}"), 31, nested(11))
        self.check(nested(20, "{if true}{use a}{else}{use b}{end}"), 35, nested(11), nested(15))
        self.check(nested(20, "{let v = 1}{use a}{end}"), 31, nested(11))
        self.check(nested(1, "{if false}{if false}{let v = 1}" + nested(29) + "{end}{end}{end}"), 30)
        self.check("{if true}<p>{else}<p a=\"\">{end}" + nested(29) + "</p>", 30)
        library = Library()
        library.define("a", "", nested(11))
        self.assertEqual(raised(TooManyLevels, library.define, "b", "{l: [flag]}",
                nested(20, "{for f in l}{use a}{end}")).found, 31)
        library.define("b", "{l: [flag]}", nested(19, "{for f in l}{use a}{end}"))

    def test_data_is_no_element(self):
        self.check(nested(30, "<data>[[[[[[1]]]]]]</data>"), 30)
        self.check(nested(30, "<data>{= 1}</data>"), 30)
        self.check(nested(30, "{use a}"), 30, "<data>{= 1}</data>x")

    def test_what_opens_no_element(self):
        page = "<p href=\"/~20/?a=~5b\" a=\"&quot;&amp;\">&lt;<data>[true,{(}\"a\":false{)}]</data></p>"
        library = library_of(page)
        library.define("b", "", nested(29, "{use a}"))
        self.assertEqual(raised(TooManyLevels, library.define, "c", "", nested(30, "{use a}")).found, 31)
        self.assertEqual(raised(TooManyLevels, library.define, "c", "", nested(1, page + "{use b}")).found, 31)

    def test_wraps(self):
        self.check("{wrap a}" + nested(20) + "{end}", 30, nested(10, "{slot}"))
        self.check("{wrap a}" + nested(21) + "{end}", 31, nested(10, "{slot}"))
        self.check(nested(2, "{wrap a}" + nested(18) + "{end}"), 30, nested(10, "{slot}"))
        self.check(nested(3, "{wrap a}" + nested(18) + "{end}"), 31, nested(10, "{slot}"))
        self.check("{wrap a}" + nested(20) + "{end}", 27, nested(7, "{slot}") + "{slot}" + nested(3, "{slot}"))
        self.check("{wrap a}" + nested(2) + "{end}", 25, nested(25) + nested(3, "{slot}"))
        self.check(nested(6, "{wrap a}" + nested(2) + "{end}"), 31, nested(25) + nested(3, "{slot}"))
        self.check("{wrap a}{wrap a}{wrap a}x{end}{end}{end}", 30, nested(10, "{slot}"))
        self.check("{wrap a}{wrap a}{wrap a}<p></p>{end}{end}{end}", 31, nested(10, "{slot}"))
        self.check("{wrap a}" * 7 + "{end}" * 7, 210, nested(30, "{slot}"))
        self.check("{wrap b}" + nested(10) + "{end}", 30, nested(10, "{slot}"),
                "{wrap a}" + nested(10, "{slot}") + "{end}")
        self.check("{wrap b}" + nested(11) + "{end}", 31, nested(10, "{slot}"),
                "{wrap a}" + nested(10, "{slot}") + "{end}")
        self.check("{wrap b}" + nested(5) + "{end}", 15, nested(10, "{slot}"),
                "{wrap a}{end}{use a}{slot}{wrap a}{slot}{end}")
        self.check("{wrap b}" + nested(5) + "{end}", 30, nested(10, "{slot}"), "{wrap a}" + nested(20) + "{end}{slot}")
        self.check(nested(9, "{wrap b}{end}") + "{wrap b}" + nested(30) + "{end}", 39, nested(10, "{slot}"),
                "{wrap a}" + nested(20) + "{end}{slot}")
        self.check("{wrap a}" + nested(25) + "{end}", 35, "{if false}" + nested(10, "{slot}") + "{end}")

    def test_slots_that_are_not_filled(self):
        self.check(nested(30, "{slot}"), 30)
        self.check("{use a}", 30, nested(30, "{slot}"))
        self.check("{wrap b}" + nested(20) + "{end}", 30, nested(10, "{slot}"), "{use a}{slot}" + nested(30))

    def test_no_text_is_nested_deeper(self):
        library = library_of(nested(10, "{slot}"), nested(5, "{wrap a}" + nested(5, "{slot}") + "{end}"),
                nested(3, "{wrap b}" + nested(7) + "{end}"))
        self.assertEqual(render(library, "c", {}), nested(30))
        self.assertEqual(raised(TooManyLevels, library.replace, "a", nested(11, "{slot}")).found, 31)
        self.assertEqual(raised(TooManyLevels, library.replace, "b",
                nested(10, "{wrap a}" + nested(5, "{slot}") + "{end}")).found, 35)
        self.assertEqual(raised(TooManyLevels, library.replace, "c", nested(30, "{use b}")).found, 50)
        self.assertEqual(raised(TooManyLevels, library.replace, "a", "{slot}" + nested(30)).found, 38)
        library.replace("a", "{slot}" + nested(22))
        self.assertEqual(render(library, "c", {}), nested(3, nested(5, nested(5, nested(7)) + nested(22))))


class PlansTest(unittest.TestCase):
    def tower(self):
        """Returns a library with a template t of the depth 97 and one called s with 97 nodes around its slot."""
        library = Library()
        library.define("ta", "", "x")
        library.define("sa", "", "{slot}")
        for at in range(12):
            one, other = "abcdefghijklm"[at:at + 2]
            library.define("t" + other, "", "{if true}" * 7 + f"{{use t{one}}}" + "{end}" * 7)
            library.define("s" + other, "", "{if true}" * 6 + f"{{wrap s{one}}}{{slot}}{{end}}" + "{end}" * 6)
        return library

    def check(self, library, body):
        """Defines a template, and looks at its plan, or at the number of nodes within one another or in all."""
        expansion = Expansion({**{name: library[name].body for name in library.names}, "z": body})
        plan = expansion.plan(expansion.nodes["z"])
        if depth_of(plan) > 100:
            self.assertEqual(raised(TooDeep, library.define, "z", "", body).found, depth_of(plan))
        elif nodes_of(plan) > 3000:
            self.assertEqual(raised(TooManyNodes, library.define, "z", "", body).found, nodes_of(plan))
        else:
            library.define("z", "", body)
            self.assertEqual(plan_of(library, "z"), plan)
            self.assertEqual(count_nodes(plan), nodes_of(plan))
            library.remove("z")
        return depth_of(plan), nodes_of(plan)

    def test_depths(self):
        library = self.tower()
        self.assertEqual(depth_of(plan_of(library, "tm")), 97)
        for body, found in (("{use tm}", 98), ("{if true}{use tm}{end}", 99),
                ("{if true}{end}{let a = 1}{if true}{use tm}{end}{end}", 100),
                            ("{if true}" * 3 + "{use tm}" + "{end}" * 3, 101),
                            ("{if true}" * 7 + "{use tm}" + "{end}" * 7, 105),
                            ("{if true}{if false}{else}{use tm}{end}{end}", 100),
                            ("{if true}{if true}{if false}{else}{use tm}{end}{end}{end}", 101),
                            ("{use sa}{wrap sa}{if true}{use tm}{end}{end}", 101), ("{wrap sa}{use tm}{end}", 100),
                            ("{wrap sa}{wrap sa}{use tl}{end}{end}", 94)):
            self.assertEqual(self.check(library, body)[0], found)

    def test_depths_of_slots(self):
        library = self.tower()
        # Of the tower without its filling, the innermost node is the outer of the innermost slot but one.
        self.assertEqual(depth_of(plan_of(library, "si")), 64)
        for body, found in (("{use si}", 65), ("{wrap si}{end}", 66), ("{wrap si}x{end}", 67),
                ("{wrap si}{if true}x{end}{end}", 68), ("{wrap si}{use tc}{end}", 84),
                            ("{wrap si}{use te}{end}", 100), ("{wrap si}{if true}{use te}{end}{end}", 101),
                            ("{wrap si}{wrap si}{end}{end}", 132),
                            ("{wrap sc}" * 3 + "{end}" * 3, 54), ("{wrap sc}" * 7 + "{end}" * 7, 126),
                            ("{wrap sc}" * 5 + "{use sb}" + "{end}" * 5, 99),
                            ("{wrap sc}" * 5 + "{wrap sb}{end}" + "{end}" * 5, 100),
                            ("{wrap sc}" * 5 + "{wrap sb}x{end}" + "{end}" * 5, 101)):
            self.assertEqual(self.check(library, body)[0], found, body)

    def test_numbers_of_nodes(self):
        library = library_of("{= 1}" * 500, "{slot}" * 10, "{if true}{slot}x{slot}{end}", "{wrap b}{slot}{end}",
                "{wrap b}a{end}{slot}")
        for body, found in (("{use a}" * 5 + "{= 1}" * 495, 3000), ("{use a}" * 5 + "{= 1}" * 496, 3001),
                ("{if true}{use a}{end}" * 3, 1506),
                            ("{wrap b}x{end}", 21), ("{wrap b}{wrap b}x{end}{end}", 221),
                            ("{wrap b}{wrap b}{wrap b}{end}{end}{end}", 1221),
                            ("{wrap b}{wrap b}{wrap b}x{end}{end}{end}", 2221),
                            ("{wrap b}{wrap b}{wrap b}xy{= 1}{end}{end}{end}", 3221),
                            ("{wrap c}{= 1}{= 2}{end}", 9), ("{wrap d}x{end}", 32), ("{wrap d}{wrap d}x{end}{end}",
                            342), ("{wrap e}x{end}", 24), ("{use e}", 22),
                            ("{use b}{use c}{use d}", 1 + 3 + 12), ("{wrap c}{wrap c}{wrap c}{use a}{end}{end}{end}",
                            4043), ("{slot}{slot}{wrap b}{slot}{end}", 11)):
            self.assertEqual(self.check(library, body)[1], found, body)

    def test_numbers_that_cannot_be_written_out(self):
        library = library_of("{slot}" * 800, "{wrap a}{slot}{end}")
        once = twice = 0
        for _ in range(7):
            once = 1 + 800 * (1 + once)
        for _ in range(3):
            twice = 1 + 1 + 800 * (1 + 1 + (twice or 1))
        self.assertEqual(raised(TooManyNodes, library.define, "z", "", "{wrap a}" * 7 + "{end}" * 7).found, once)
        self.assertEqual(raised(TooManyNodes, library.define, "z", "", "{wrap b}" * 3 + "x" + "{end}" * 3).found, twice)


class GrownTest(unittest.TestCase):
    def test_plans_and_levels_are_those_of_what_is_written_out(self):
        for seed in range(40):
            library = LibraryGrower(random.Random(seed)).grow(5)
            expansion = Expansion({name: library[name].body for name in library.names})
            for name in library.names:
                plan = expansion.plan(expansion.nodes[name])
                self.assertEqual(count_nodes(plan_of(library, name)), nodes_of(plan))
                self.assertEqual(depth_of(plan_of(library, name)), depth_of(plan))
                self.assertEqual(repr(plan_of(library, name)).replace("'attribute'", "'text'").replace("'part'",
                        "'text'")
                                 .replace("'query'", "'text'").replace("'show', 'data'", "'show', 'text'"), repr(plan))


if __name__ == "__main__":
    unittest.main()
