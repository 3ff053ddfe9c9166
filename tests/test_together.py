"""Point 2 over the whole program: for drawn templates, data and histories all ways give the same text."""

import random
import unittest
from unittest.mock import patch

from shapekeep.caching import Cache
from shapekeep.certificates import certify_accepted, certify_page, certify_patched, certify_place, certify_shape
from shapekeep.checker import accepts
from shapekeep.console import Console
from shapekeep.errors import InUse, NoSuchPath, Ring, TooManyElements, Unfit
from shapekeep.escaping import escape
from shapekeep.expressions import Expression
from shapekeep.machine import assemble
from shapekeep.markup import parse
from shapekeep.pages import Page, patched
from shapekeep.plans import PASSES, optimize, plan_of
from shapekeep.rendering import origins, render, render_tree
from shapekeep.streaming import Stream, chunks
from tests import test_sizes
from tests.acting import Change, drawn_action
from tests.runs import Run
from tests.second import PAIR, Rendering
from tests.templates import LibraryGrower
from tests.test_library import library_of


class OneMeaningTest(unittest.TestCase):
    def check(self, library, name, data, source, cache):
        """Looks whether all ways to the text of a template with data give the same one, and returns it."""
        text = Rendering(library).template(name, data)
        self.assertEqual(render(library, name, data), text)
        self.assertEqual(Run(library, name, data).text, text)
        self.assertEqual("".join(piece for piece, _, _ in origins(library, name, data)), text)
        self.assertEqual(repr(render_tree(library, name, data)), repr(parse(text)))
        plan = plan_of(library, name)
        for passes in ((), PASSES, PASSES[::-1], source.sample(PASSES * 2, source.randint(1, 8))):
            program = assemble(optimize(plan, *passes))
            self.assertEqual((program(data), "".join(program.pieces(data))), (text, text))
        self.assertEqual("".join(chunks(library, name, data, source.randint(1, 9))), text)
        late = source.sample(sorted(data), source.randint(0, len(data)))
        stream = Stream(library, name, {key: data[key] for key in data if key not in late}, *late)
        for key in source.sample(late, len(late)):
            stream.fill(key, data[key])
        self.assertEqual((stream.text, stream.waiting), (text, ()))
        self.assertEqual((cache.render(name, data), Cache(library).render(name, data)), (text, text))
        page = Page(library, name, data)
        self.assertEqual((page.text, str(page), repr(page.tree)), (text, text, repr(parse(text))))
        for claim, certificate in (certify_accepted(library, name), certify_page(library, name, data),
                certify_shape(library, name, data)):
            self.assertIs(accepts(claim, certificate), True)
        return text

    def test_the_deepest_plans(self):
        library = test_sizes.PlansTest().tower()
        library.define("y", "{t: text}", "{wrap sc}" * 5 + "{use sb}{= t}" + "{end}" * 5)
        library.define("z", "{t: text}", "{if true}" * 2 + "{wrap sa}{use tl}{end}{= t}" + "{end}" * 2)
        for name in "yz":
            self.check(library, name, {"t": "<"}, random.Random(1), Cache(library))
            page = Page(library, name, {"t": ""})
            page.change(("t",), "x")
            self.assertEqual(page.text, render(library, name, {"t": "x"}))

    def test_drawn_libraries(self):
        for seed in range(25):
            grower = LibraryGrower(random.Random(seed))
            library = grower.grow(5)
            cache = Cache(library)
            bodies = {name: library[name].body for name in library.names}
            for _ in range(10):
                name = grower.random.choice(library.names)
                self.check(library, name, grower.data(name), grower.random, cache)
                other = grower.random.choice(library.names)
                try:
                    library.replace(other, grower.random.choice([bodies[other], bodies[other] + "<p>x</p>", "{slot}"]))
                except (InUse, Ring):
                    continue

    def test_live_pages_over_any_history(self):
        for seed in range(25):
            grower = LibraryGrower(random.Random(seed))
            library = grower.grow(5)
            cache = Cache(library)
            for name in library.names:
                if library[name].parameters is not None:
                    self.check_history(library, name, grower, cache)

    def check_history(self, library, name, grower, cache):
        page = Page(library, name, grower.data(name))
        states = []
        for _ in range(6):
            data, text = page.data, page.text
            if states and grower.random.random() < 0.25:
                patches = page.undo()
                self.assertEqual((page.data, page.text, page.history()), states.pop())
            else:
                state, action = (data, text, page.history()), drawn_action(grower, library[name].parameters, data)
                try:
                    claim, patches = certify_patched(page, action)
                except (NoSuchPath, Unfit, TooManyElements):
                    self.assertEqual((page.data, page.text, page.history()), state)
                    continue
                states.append(state)
                self.assertIs(accepts(claim, patches), True)
            change = Change(library, name, data, page.data)
            self.assertEqual((patches, page.evaluated), (change.patches, change.evaluated))
            self.assertEqual(patched(text, patches), page.text)
        self.check(library, name, page.data, grower.random, cache)
        self.assertEqual(page, Page(library, name, page.data))
        data, text, evaluated, history = page.data, page.text, page.evaluated, page.history()
        with self.assertRaises(NoSuchPath):
            page.do_all((("set", sorted(data)[:1] and (sorted(data)[0],), data[sorted(data)[0]]), ("delete", ("none",),
                    0)))
        self.assertEqual((page.data, page.text, page.evaluated, page.history()), (data, text, evaluated, history))
        while page.history():
            page.undo()
        self.assertEqual(page.text, render(library, name, page.data))

    def test_consoles_answer_what_objects_answer(self):
        for seed in range(10):
            grower = LibraryGrower(random.Random(seed))
            library, console = grower.grow(4), Console()
            for name in library.names:
                console.run(f"define {name} {library[name].parameters or '-'} ; {library[name].body}")
                data = grower.data(name)
                self.assertEqual(console.run(f"open {name} {escape('data', data)}"), render(library, name, data))

    def test_places_of_pages(self):
        for seed in range(20):
            grower = LibraryGrower(random.Random(seed))
            library = grower.grow(3)
            name = library.names[-1]
            text = render(library, name, grower.data(name))
            cuts = [text[:grower.random.randint(0, len(text))] for _ in range(6)]
            for one in cuts:
                for other in cuts:
                    self.assertIs(accepts(*certify_place(one, other)), True)


class JustTheWorkThatIsNeededTest(unittest.TestCase):
    def test_expressions_that_are_computed(self):
        for seed in range(15):
            grower = LibraryGrower(random.Random(seed))
            library = grower.grow(5)
            for name in library.names:
                page = Page(library, name, grower.data(name))
                for _ in range(4 if library[name].parameters else 0):
                    action = drawn_action(grower, library[name].parameters, page.data)
                    with patch.object(Expression, "__call__", autospec=True, side_effect=Expression.__call__) as called:
                        try:
                            page.do(action)
                        except (NoSuchPath, Unfit):
                            continue
                    self.assertEqual(len(called.mock_calls), self.expressions(library, page.evaluated))

    def expressions(self, library, evaluated):
        """Returns how many expressions the tags have that are evaluated."""
        many = 0
        for name, index in evaluated:
            content = library[name].body[index + 1:].partition("}")[0]
            many += len(PAIR.findall(content)) if content.startswith(("use", "wrap")) else 1
        return many

    def test_long_lists(self):
        library = library_of(("row", "<b id=\"{= t}\">{= n}</b>{slot}", "{n: number, t: text}"), ("page",
                "{for x in l}{wrap row n=x.n t=x.t}{= s}{for y in x.m}{= y}{end}{end}{end}",
                "{l: [{m: [number], n: number, t: text} by n], s: text}"))
        rows = tuple({"n": at, "m": tuple(range(at % 5)), "t": str(at * at)} for at in range(60))
        page = Page(library, "page", {"l": rows, "s": "-"})
        for path, value, many in ((("l", 30, "t"), "x", 2), (("l", 34, "m", 2), 77, 1), (("l", 34, "m"), (0, 1), 1),
                (("s",), "+", 60), (("l", 5), {"n": 5, "m": (), "t": "25"}, 0), (("l", 6),
                        {"n": 6, "m": (5,), "t": "36"}, 1)):
            page.change(path, value)
            self.assertEqual(len(page.evaluated), many, path)
        page.move(("l",), 59, 0)
        self.assertEqual(page.evaluated, (("page", 0),))
        page.take_out(("l",), 30)
        self.assertEqual(page.evaluated, (("page", 0),))
        page.put_in(("l",), 30, {"n": 100, "m": (1, 2), "t": ""})
        self.assertEqual(len(page.evaluated), 8)
        self.assertEqual(page.text, render(library, "page", page.data))


if __name__ == "__main__":
    unittest.main()
