"""Points 2 to 6 and the section on caching: what a cache renders, and how often it runs templates."""

import random
import unittest

from shapekeep.caching import Cache
from shapekeep.errors import InUse, MissingTemplate, NotALibrary, Ring, Unfit
from shapekeep.escaping import escape
from shapekeep.library import Library
from shapekeep.rendering import render
from tests.runs import Run
from tests.support import raised, unchanged
from tests.templates import LibraryGrower
from tests.test_library import NO_NAMES, library_of


class Odd:
    """An object of no kind that the program knows."""


def closure(library, name):
    """Returns the parameters and bodies of a template and of all that it uses or wraps."""
    found, waiting = {}, [name]
    while waiting:
        called = waiting.pop()
        found[called] = (str(library[called].parameters), library[called].body)
        waiting += [used for used in library[called].uses if used not in found]
    return name, tuple(sorted(found.items()))


class CountedRun(Run):
    """A run that counts the templates that a cache with this memory runs."""

    def __init__(self, library, name, data, memory):
        self.memory = memory
        self.runs = 0
        self.known = False
        super().__init__(library, name, data)

    def template(self, name, values, *rest):
        mark = (closure(self.library, name), escape("data", values))
        if self.known or self.library[name].slots or mark not in self.memory:
            self.runs += not self.known
            super().template(name, values, *rest)
            if not self.known and not self.library[name].slots:
                self.memory.add(mark)
        else:
            self.known = True
            super().template(name, values, *rest)
            self.known = False


class RunsTest(unittest.TestCase):
    def check(self, cache, library, *calls):
        """Renders templates with data, and compares the texts and how many runs there are in all."""
        for name, data, runs in calls:
            text = unchanged(self, data, lambda data: cache.render(name, data))
            self.assertEqual(text, render(library, name, data))
            self.assertEqual((cache.runs, repr(cache)), (runs, f"Cache({runs} runs)"))

    def test_rendered_templates(self):
        library = library_of(("a", "<p>{= t}{= n}</p>", "{n: number, t: text}"), ("b", "x"))
        cache = Cache(library)
        self.assertEqual((cache.runs, repr(cache)), (0, "Cache(0 runs)"))
        self.check(cache, library, ("a", {"n": 1, "t": "x"}, 1), ("a", {"t": "x", "n": 1}, 1), ("a",
                {"t": "y", "n": 1}, 2),
                   ("b", {}, 3), ("b", {}, 3), ("a", {"n": 1, "t": "x"}, 3), ("a", {"n": 2, "t": "x"}, 4))
        self.assertEqual((cache.render(data={}, name="b"), cache.runs), ("x", 4))

    def test_used_templates(self):
        library = library_of(("row", "<b>{= t}</b>", "{t: text}"), ("twice", "{use row t=t}{use row t=\"k\"}",
                "{t: text}"),
                ("page", "{for x in l}{use twice t=x}{use row t=x}{end}", "{l: [text]}"))
        cache = Cache(library)
        self.check(cache, library, ("page", {"l": ()}, 1), ("page", {"l": ("a",)}, 5), ("page", {"l": ("a", "a")}, 6),
                   ("page", {"l": ("k", "a")}, 8), ("row", {"t": "a"}, 8), ("row", {"t": "b"}, 9), ("twice",
                           {"t": "b"}, 10),
                   ("twice", {"t": "a"}, 10))

    def test_values_of_different_kinds(self):
        library = library_of(("d", "<data>{= v}</data>", "{v: number?}"), ("f", "<data>{= v}</data>", "{v: flag?}"),
                ("t", "<data>{= v}</data>", "{v: text?}"), ("l", "<data>{= v}</data>",
                        "{v: [{a: text?, b: [number]}]}"))
        cache = Cache(library)
        self.check(cache, library, ("d", {"v": 1}, 1), ("f", {"v": True}, 2), ("d", {"v": 0}, 3), ("f", {"v": False},
                4),
                   ("t", {"v": ""}, 5), ("t", {"v": None}, 6), ("t", {"v": "null"}, 7), ("d", {"v": None}, 8),
                   ("f", {"v": None}, 9), ("d", {"v": 1}, 9), ("f", {"v": True}, 9), ("t", {"v": ""}, 9),
                   ("t", {"v": "\"\""}, 10), ("l", {"v": ()}, 11), ("l", {"v": ({"a": "", "b": ()},)}, 12),
                   ("l", {"v": ({"b": (), "a": ""},)}, 12), ("l", {"v": ({"b": (), "a": None},)}, 13),
                   ("l", {"v": ({"b": (1, 2), "a": None},)}, 14), ("l", {"v": ({"b": (12,), "a": None},)}, 15))

    def test_values_of_one_type_that_python_takes_for_equal(self):
        # Within one template, by way of parameters that another one passes.
        library = library_of(("v", "{if f}{= n}{end}", "{f: flag, n: number}"),
                ("page", "{use v f=equal(n, 1) n=n}{use v f=equal(n, 0) n=n}", "{n: number}"))
        cache = Cache(library)
        self.check(cache, library, ("page", {"n": 1}, 3), ("page", {"n": 0}, 6), ("v", {"f": True, "n": 1}, 6),
                   ("v", {"f": False, "n": 0}, 6), ("v", {"f": True, "n": 0}, 6), ("v", {"f": True, "n": 2}, 7))

    def test_templates_with_slots_are_run_each_time(self):
        library = library_of(("box", "<b>{slot}</b>"), ("row", "{= t}", "{t: text}"),
                ("page", "{wrap box}{use row t=t}{end}{wrap box}{use row t=t}{end}{use box}", "{t: text}"),
                ("slotted", "{use page t=t}{slot}", "{t: text}"))
        cache = Cache(library)
        self.check(cache, library, ("box", {}, 1), ("box", {}, 2), ("page", {"t": "a"}, 7), ("page", {"t": "a"}, 7),
                   ("page", {"t": "b"}, 12), ("slotted", {"t": "b"}, 13), ("slotted", {"t": "c"}, 19),
                   ("slotted", {"t": "c"}, 20), ("row", {"t": "c"}, 20))

    def test_slots_in_loops(self):
        library = library_of(("row", "{= t}", "{t: text}"), ("list", "{for x in l}{slot}{end}", "{l: [text]}"),
                ("page", "{wrap list l=l}{use row t=t}{wrap list l=l}{use row t=\"k\"}{end}{end}",
                        "{l: [text], t: text}"))
        cache = Cache(library)
        self.check(cache, library, ("page", {"l": ("1", "2"), "t": "a"}, 6), ("page", {"l": ("1", "2"), "t": "a"}, 6),
                   ("page", {"l": ("1",), "t": "a"}, 9))

    def test_errors_do_not_count(self):
        library = library_of(("a", "{= t}", "{t: text}"))
        cache = Cache(library)
        for thing in NO_NAMES + ["no"]:
            self.assertIs(raised(MissingTemplate, cache.render, thing, 5).called, thing)
        for data, path in ((None, ()), ({}, ("t",)), ({"t": 1}, ("t",)), ({"t": "", "u": ""}, ()), (Odd(), ())):
            self.assertEqual(raised(Unfit, cache.render, "a", data).path, path)
        self.assertEqual(cache.runs, 0)
        self.check(cache, library, ("a", {"t": "x"}, 1))
        raised(Unfit, cache.render, "a", {"t": None})
        self.check(cache, library, ("a", {"t": "x"}, 1))

    def test_forget(self):
        library = library_of(("row", "{= t}", "{t: text}"), ("a", "{use row t=t}", "{t: text}"))
        cache = Cache(library)
        self.assertIsNone(cache.forget())
        self.check(cache, library, ("a", {"t": "x"}, 2), ("a", {"t": "x"}, 2))
        self.assertIsNone(cache.forget())
        self.assertEqual((cache.runs, repr(cache)), (2, "Cache(2 runs)"))
        self.check(cache, library, ("row", {"t": "x"}, 3), ("a", {"t": "x"}, 4), ("a", {"t": "x"}, 4))


class ChangedLibraryTest(unittest.TestCase):
    def setUp(self):
        self.library = library_of(("deep", "d"), ("row", "{use deep}{= t}", "{t: text}"), ("box", "({slot}{use deep})"),
                ("page", "{use row t=t}{wrap box}x{end}", "{t: text}"), ("other", "{= t}", "{t: text}"))
        self.cache = Cache(self.library)

    def runs(self, name, data=None):
        """Renders a template and returns how many runs that took."""
        before = self.cache.runs
        data = {"t": "x"} if data is None else data
        self.assertEqual(self.cache.render(name, data), render(self.library, name, data))
        return self.cache.runs - before

    def test_the_same_body_again(self):
        self.assertEqual((self.runs("page"), self.runs("page")), (4, 0))
        for name in ("deep", "row", "box", "page"):
            self.library.replace(name, self.library[name].body)
            self.assertEqual(self.runs("page"), 0)

    def test_other_bodies(self):
        self.assertEqual((self.runs("page"), self.runs("other")), (4, 1))
        self.library.replace("row", "{= t}{use deep}")
        self.assertEqual([self.runs(name) for name in ("page", "page", "row", "other")], [3, 0, 0, 0])
        self.library.replace("deep", "D")
        self.assertEqual([self.runs(name) for name in ("row", "page", "other")], [2, 2, 0])
        self.assertEqual(self.runs("deep", {}), 0)
        self.library.replace("box", "[{slot}]")
        self.assertEqual([self.runs("row"), self.runs("page")], [0, 2])
        self.library.replace("page", "{wrap box}{use row t=t}{end}")
        self.assertEqual([self.runs("page"), self.runs("page")], [2, 0])

    def test_a_former_body_is_known_again(self):
        self.assertEqual(self.runs("page"), 4)
        for name, body in (("deep", "D"), ("row", "r"), ("box", "{slot}"), ("page", "{= t}")):
            former = self.library[name].body
            self.library.replace(name, body)
            self.assertGreater(self.runs("page"), 0)
            self.library.replace(name, former)
            self.assertEqual([self.runs("page"), self.runs("row"), self.runs("deep", {})], [0, 0, 0])

    def test_removed_and_defined_again(self):
        self.assertEqual([self.runs("other"), self.runs("other")], [1, 0])
        self.library.remove("other")
        raised(MissingTemplate, self.cache.render, "other", {"t": "x"})
        self.library.define("other", "{t: text}", "{= t}")
        self.assertEqual(self.runs("other"), 0)
        self.library.remove("other")
        self.library.define("other", "{t: text?}", "{= or_else(t, \"\")}")
        self.assertEqual([self.runs("other"), self.runs("other", {"t": None}), self.runs("other")], [1, 1, 0])
        self.library.remove("other")
        self.library.define("other", "{t: text}", "{= t}")
        self.assertEqual(self.runs("other"), 0)

    def test_other_parameters_of_the_same_body(self):
        self.library.define("free", "{t: text}", "f")
        self.library.define("user", "", "{use free t=\"a\"}")
        self.assertEqual([self.runs("user", {}), self.runs("free", {"t": "a"})], [2, 0])
        self.library.remove("user")
        self.library.remove("free")
        self.library.define("free", "{t: text?}", "f")
        self.library.define("user", "", "{use free t=\"a\"}")
        self.assertEqual([self.runs("user", {}), self.runs("free", {"t": "a"})], [2, 0])

    def test_another_template_with_the_same_body(self):
        self.library.define("twin", "{t: text}", "{= t}")
        self.assertEqual([self.runs("other"), self.runs("twin"), self.runs("other"), self.runs("twin")], [1, 1, 0, 0])

    def test_several_caches(self):
        second = Library()
        second.define("other", "{t: text}", "<p>{= t}</p>")
        caches = [self.cache, Cache(self.library), Cache(second)]
        for cache in caches:
            self.assertEqual(cache.render("other", {"t": "x"}), "<p>x</p>" if cache is caches[2] else "x")
        self.assertEqual([cache.runs for cache in caches], [1, 1, 1])
        caches[0].forget()
        caches[0].render("other", {"t": "x"})
        caches[1].render("other", {"t": "x"})
        self.assertEqual([cache.runs for cache in caches], [2, 1, 1])
        self.assertTrue(caches[0] == caches[0] and caches[0] != caches[1] and not caches[0] == caches[1])
        for thing in (None, 0, self.library, "Cache(2 runs)"):
            self.assertFalse(caches[0] == thing)
            self.assertTrue(caches[0] != thing)
        self.assertTrue(Cache(library=second))

    def test_no_libraries(self):
        for thing in (None, 1, True, "a", (), {}, [], Odd(), Library, self.library["page"], self.cache):
            self.assertIs(raised(NotALibrary, Cache, thing).value, thing)

    def test_drawn_histories(self):
        for seed in range(40):
            grower = LibraryGrower(random.Random(seed))
            library = grower.grow(5)
            cache, memory, runs = Cache(library), set(), 0
            bodies = {name: [library[name].body] for name in library.names}
            for _ in range(25):
                name = grower.random.choice(library.names)
                if grower.random.random() < 0.3:
                    self.change(library, name, bodies, grower.random)
                    continue
                data = grower.data(name)
                run = CountedRun(library, name, data, memory)
                runs += run.runs
                self.assertEqual(cache.render(name, data), run.text)
                self.assertEqual(cache.runs, runs)

    def change(self, library, name, bodies, source):
        """Gives a template a new body, or one that it has had."""
        body = source.choice(bodies[name] + [bodies[name][0] + "x", "n{slot}"])
        try:
            library.replace(name, body)
        except (InUse, Ring):
            return
        if body not in bodies[name]:
            bodies[name].append(body)


if __name__ == "__main__":
    unittest.main()
