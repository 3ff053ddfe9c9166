"""Points 2 to 6 and the section on the machine: programs of plans, and what they write."""

import inspect
import itertools
import random
import unittest

from shapekeep.errors import InvalidPlan
from shapekeep.library import Library
from shapekeep.machine import Program, assemble
from shapekeep.plans import PASSES, count_nodes, optimize, plan_of
from shapekeep.rendering import render
from tests.second import nodes_of, run_plan
from tests.support import in_lists, raised, unchanged
from tests.templates import LibraryGrower
from tests.test_library import library_of
from tests.test_plans import NO_NODES, NO_PLANS, PLANS, nested
from tests.test_rendering import PAGES, define_all

DATA = {"a": "A&", "b": "<b>", "f": True, "l": ("x", "", "z"), "r": {"l": (1, 2)}, "n": 5}
A = ("show", "text", "a")


class AssembleTest(unittest.TestCase):
    def check(self, plan, data, text):
        program = unchanged(self, plan, assemble)
        self.assertIs(type(program), Program)
        self.assertEqual(unchanged(self, data, program), text)
        self.assertEqual(program(data=dict(reversed(list(data.items())))), text)
        self.assertEqual(program({**data, "other": 1, "zz": {}}), text)
        pieces = list(program.pieces(data))
        self.assertEqual("".join(pieces), text)
        self.assertNotIn("", pieces)
        self.assertGreaterEqual(len(program), nodes_of(plan))
        self.assertEqual(repr(program), f"Program({len(program)} rows)")

    def test_plans_of_all_kinds(self):
        for plan in PLANS:
            self.check(plan, DATA, run_plan(plan, DATA))
            for many in range(1, 5):
                for passes in itertools.permutations(PASSES, many):
                    self.check(optimize(plan, *passes), DATA, run_plan(plan, DATA))

    def test_texts(self):
        for plan, text in (
                ((), ""), ((("write", "x"), ("write", ""), ("write", "&")), "x&"),
                ((A, ("show", "attribute", "a"), ("show", "part", "a"), ("show", "query", "b"), ("show", "data", "l")),
                 "A&amp;A&amp;A~26~3cb~3e[\"x\",\"\",\"z\"]"),
                ((("if", "f", (A,), ()), ("if", "not(f)", (A,), (("write", "no"),)), ("if", "f", (), (A,))),
                        "A&amp;no"),
                ((("for", "x", "l", (("show", "text", "x"), ("write", "-"))),), "x--z-"),
                ((("for", "a", "l", (A, ("for", "a", "r.l", (A,)), A)), A), "x12x12z12zA&amp;"),
                ((("for", "x", "l", ()), ("let", "x", "n", ()), ("scope", (), ())), ""),
                ((("let", "a", "joined(a, n)", (A, ("let", "a", "n", (A,)), A)), A), "A&amp;55A&amp;5A&amp;"),
                ((("scope", (("a", "n"), ("n", "a")), (A, ("show", "text", "n"), ("outer", (A, ("show", "text", "n"))),
                   A)), A), "5A&amp;A&amp;55A&amp;")):
            self.check(plan, DATA, text)

    def test_scopes_and_outers(self):
        show = ("show", "text", "a")
        inner = ("scope", (("a", "joined(a, 2)"),), (show, ("outer", (show, ("outer", (show,)))), show))
        self.check((("scope", (("a", "joined(a, 1)"),), (show, inner, ("outer", (show,)), show)), show), {"a": "x"},
                   "x1x12x1xx12xx1x")
        # Within an outer the variables of a loop or a let around the scope are seen, those within the scope are not.
        loop = ("for", "a", "l", (("scope", (("a", "\"s\""),), (("let", "a", "\"t\"", (("outer", (show,)), show)),
                ("for", "a", "m", (show, ("outer", (show,)))))),))
        self.check((("let", "m", "l", (("for", "a", "l", (show,)),)),
                    ("scope", (("l", "l"), ("m", "l")), (("for", "a", "l", (("outer", (("write", "|"),)), show)),))),
                   {"l": ("p", "q")}, "pq|p|q")
        scoped = (("scope", (("l", "l"), ("m", "m")), (
            ("for", "a", "l", (("scope", (("a", "\"s\""), ("m", "m")), loop[3][0][2]),)),)),)
        self.check(scoped, {"l": ("p", "q"), "m": ("1", "2")}, "pt1p2pqt1q2q")

    def test_an_outer_leaves_lets_loops_and_scopes_as_they_were(self):
        show, other = ("show", "text", "a"), ("show", "text", "b")
        plan = (("let", "b", "\"B\"", (
            ("scope", (("a", "b"), ("l", "l")), (
                ("let", "b", "a", (
                    ("for", "a", "l", (
                        ("outer", (show, other, ("let", "a", "1", (("for", "b", "l", (show, other)),)), show)),
                        show, other)),
                    show)),)), show, other)),)
        data = {"a": "A", "b": "x", "l": (7, 8)}
        self.check(plan, data, run_plan(plan, data))
        self.check(plan, data, "AB1718A7BAB1718A8BBAB")

    def test_deep_plans(self):
        data = {"a": "x", "f": True, "l": ("1",)}
        for levels in (1, 50, 99, 100):
            plan = nested(levels - 1, (A,))
            self.check(plan, data, "x")
        plan = (("write", "."),)
        for _ in range(99):
            plan = (("for", "x", "l", plan),)
        self.check(plan, data, ".")

    def test_the_machine_calls_itself_for_no_part(self):
        depths = []

        class Row(tuple):
            """A list that tells how deep the calls are when it is gone through."""

            def __getitem__(self, at):
                depths.append(len(inspect.stack(0)))
                return tuple.__getitem__(self, at)

        plan = (("write", "."),)
        for _ in range(60):
            plan = (("for", "x", "l", plan),)
        self.assertEqual(assemble(plan)({"l": Row(("a",))}), ".")
        self.assertEqual((len(depths), len(set(depths))), (60, 1))

    def test_large_plans(self):
        plan = tuple(("write", str(at)) if at % 2 else A for at in range(6000))
        self.check(plan, {"a": "x"}, run_plan(plan, {"a": "x"}))
        rows = tuple(range(60))
        plan = (("for", "x", "l", (("for", "y", "l", (("show", "text", "sum(x, y)"),)),)),)
        self.check(plan, {"l": rows}, "".join(str(x + y) for x in rows for y in rows))

    def test_pages(self):
        for templates, data, text in PAGES:
            library, name = define_all(templates)
            self.check(plan_of(library, name), data, text)

    def test_grown_libraries(self):
        for seed in range(40):
            grower = LibraryGrower(random.Random(seed))
            library = grower.grow(5)
            for name in library.names:
                data, plan = grower.data(name), plan_of(library, name)
                passes = grower.random.sample(PASSES * 2, grower.random.randint(1, 6))
                for made in [plan, optimize(plan, *passes)] + [optimize(plan, one) for one in PASSES]:
                    self.check(made, data, render(library, name, data))

    def test_no_plans(self):
        things = NO_PLANS + [(node,) for node in NO_NODES if node != ("outer", ())] + [
            (("outer", ()),), nested(101), in_lists(300, ()), (("scope", (), (("outer", (("outer", ()),)),)),)]
        for thing in things:
            self.assertIs(raised(InvalidPlan, assemble, thing).value, thing)
            self.assertIs(raised(InvalidPlan, assemble, plan=thing).value, thing)


class PiecesTest(unittest.TestCase):
    PROGRAM = assemble((("write", "<p>"), ("write", ""), ("for", "x", "l", (("show", "text", "x"), ("write", ";"))),
                        ("write", "</p>")))

    def test_a_generator(self):
        found = self.PROGRAM.pieces({"l": ("a", "", "&")})
        self.assertTrue(inspect.isgenerator(found))
        self.assertEqual(list(found), ["<p>", "a", ";", ";", "&amp;", ";", "</p>"])
        self.assertEqual(list(found), [])
        self.assertEqual(list(self.PROGRAM.pieces(data={"l": ()})), ["<p>", "</p>"])
        self.assertEqual(list(assemble(()).pieces({})), [])
        self.assertEqual(list(assemble((("write", ""), ("show", "text", "\"\""))).pieces({})), [])

    def test_several_generators_at_once(self):
        one, other = self.PROGRAM.pieces({"l": ("a", "b")}), self.PROGRAM.pieces({"l": ("c", "d")})
        pairs = list(zip(one, other))
        self.assertEqual("".join(first for first, _ in pairs), "<p>a;b;</p>")
        self.assertEqual("".join(second for _, second in pairs), "<p>c;d;</p>")

    def test_a_generator_that_is_left(self):
        left = self.PROGRAM.pieces({"l": ("a", "b", "c")})
        self.assertEqual([next(left), next(left)], ["<p>", "a"])
        self.assertEqual(self.PROGRAM({"l": ("x",)}), "<p>x;</p>")
        self.assertEqual(list(self.PROGRAM.pieces({"l": ("y",)})), ["<p>", "y", ";", "</p>"])
        self.assertEqual(list(left), [";", "b", ";", "c", ";", "</p>"])
        dropped = self.PROGRAM.pieces({"l": ("a",)})
        next(dropped)
        dropped.close()
        self.assertEqual(self.PROGRAM({"l": ()}), "<p></p>")

    def test_texts_come_as_they_are_written(self):
        # What is behind the first pieces is not worked out before it is asked for.
        found = assemble((("write", "a"), A, ("show", "text", "missing"))).pieces({"a": "b"})
        self.assertEqual([next(found), next(found)], ["a", "b"])


class ProgramTest(unittest.TestCase):
    def test_equality(self):
        library = library_of(("b", "x{slot}"), ("a", "{use b}"))
        one, other = assemble(plan_of(library, "a")), assemble((("scope", (), (("write", "x"),)),))
        self.assertTrue(one == other)
        self.assertFalse(one != other)
        for thing in (assemble((("write", "x"),)), assemble(()), None, 1, "x", (), plan_of(library, "a"), library, []):
            self.assertFalse(one == thing)
            self.assertTrue(one != thing)

    def test_programs_of_plans_that_write_the_same(self):
        self.assertNotEqual(assemble((("write", "ab"),)), assemble((("write", "a"), ("write", "b"))))

    def test_length_and_writing(self):
        self.assertEqual((len(assemble(())), bool(assemble(())), repr(assemble(()))), (0, False, "Program(0 rows)"))
        self.assertTrue(assemble((("write", ""),)))
        for plan in PLANS:
            self.assertGreaterEqual(len(assemble(plan)), count_nodes(plan))

    def test_a_program_stays_as_it_is_when_the_library_changes(self):
        library = Library()
        library.define("a", "", "x")
        program = assemble(plan_of(library, "a"))
        library.replace("a", "y")
        self.assertEqual((program({}), assemble(plan_of(library, "a"))({})), ("x", "y"))


if __name__ == "__main__":
    unittest.main()
