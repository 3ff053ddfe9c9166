"""Points 3 to 6, 10 and the section on pages: actions with their errors, all or none, and back."""

import unittest

from shapekeep.errors import (Busy, InvalidAction, NoSuchPath, NothingToUndo, ShapeError, StateError, TooManyElements,
                              TooManyEntries, Unfit)
from shapekeep.pages import Page, patched
from shapekeep.rendering import render, render_tree
from tests.support import raised, unchanged
from tests.test_library import library_of

PARAMETERS = "{k: [{id: number, m: [text], t: text?} by id], l: [text], n: number, o: [number]?, r: {a: text, f: flag}}"
BODY = ("{for x in k}{= x.id}{= or_else(x.t, \"-\")}{for y in x.m}{= y}{end};{end}{for x in l}({= x}){end}{= n}"
        "{if has(o)}<data>{= o}</data>{end}{= r.a}{if r.f}!{end}")
LIBRARY = library_of(("page", BODY, PARAMETERS), ("none", "x"))
DATA = {"k": ({"id": 1, "m": ("p", "q"), "t": None}, {"id": 2, "m": (), "t": "two"}), "l": ("a", "b", "c"), "n": 5,
        "o": None, "r": {"a": "A", "f": True}}


class Odd:
    """An object of no kind that the program knows."""


class Same:
    """An object that says of itself that it equals anything."""

    def __eq__(self, other):
        return True


ODD = [None, True, False, 0, 1, -1, "", "a", "set", (), ("a",), [], ["l"], {}, {"a": 1}, {"a"}, b"l", Odd(), Same(),
        str,
       ((), {}), "l" * 13]


def new_page():
    return Page(LIBRARY, "page", DATA)


def state_of(page):
    """Returns all that a page tells, except for its attempts."""
    return (page.text, repr(page.data), page.evaluated, page.history(), page.busy, repr(page.tree))


class ActionsTest(unittest.TestCase):
    def setUp(self):
        self.page = new_page()

    def check(self, action, path, value):
        """Does an action, and looks at what is there afterwards; then once more by the method, and back."""
        data, text = self.page.data, self.page.text
        patches = unchanged(self, action, self.page.do)
        found = self.page.data
        for part in path:
            found = found[part]
        self.assertEqual(repr(found), repr(value))
        state = state_of(self.page)
        self.assertEqual((patched(text, patches), self.page.text), (self.page.text, render(LIBRARY, "page",
                         self.page.data)))
        self.assertEqual(repr(self.page.tree), repr(render_tree(LIBRARY, "page", self.page.data)))
        self.assertEqual(self.page.history()[-1], action)
        back = self.page.undo()
        self.assertEqual((self.page.data, self.page.text, patched(state[0], back)), (data, text, text))
        names = {"set": ("change", ("path", "value")), "insert": ("put_in", ("path", "index", "value")),
                 "delete": ("take_out", ("path", "index")), "move": ("move", ("path", "index", "place"))}
        method, arguments = names[action[0]]
        self.assertEqual(getattr(self.page, method)(*action[1:]), patches)
        self.assertEqual(state_of(self.page), state)
        self.page.undo()
        self.assertEqual(getattr(self.page, method)(**dict(reversed(list(zip(arguments, action[1:]))))), patches)
        self.assertEqual(state_of(self.page), state)

    def test_set(self):
        for path, value in ((("n",), -7), (("r", "a"), "<"), (("r",), {"f": False, "a": ""}), (("l",), ()),
                (("l",), ("x",)), (("k", 1, "t"), None), (("k", 0, "m", 1), "Q"), (("k", 0, "id"), 9), (("o",), (1, 2)),
                (("o", 0), 3), (("o",), None), (("k",), ({"id": 5, "m": (), "t": ""},)), (("n",), -7)):
            self.check(("set", path, value), path, value)

    def test_insert(self):
        for path, index, value, there in (
                (("l",), 0, "z", ("z", "a", "b", "c")), (("l",), 4, "y", ("z", "a", "b", "c", "y")),
                (("l",), 2, "", ("z", "a", "", "b", "c", "y")), (("k", 1, "m"), 0, "new", ("new",)),
                (("k", 0, "m"), 1, "mid", ("p", "mid", "q"))):
            self.check(("insert", path, index, value), path, there)
        row = {"id": 3, "m": (), "t": None}
        self.check(("insert", ("k",), 1, row), ("k",), (self.page.data["k"][0], row, self.page.data["k"][1]))

    def test_delete(self):
        for path, index, there in ((("l",), 1, ("a", "c")), (("l",), 1, ("a",)), (("l",), 0, ()), (("k", 0, "m"), 0,
                ("q",))):
            self.check(("delete", path, index), path, there)
        self.check(("delete", ("k",), 0), ("k",), (DATA["k"][1],))

    def test_move(self):
        for index, place, there in ((0, 2, "bca"), (2, 0, "abc"), (1, 1, "abc"), (0, 1, "bac"), (1, 2, "bca"),
                (2, 1, "bac"), (0, 0, "bac"), (2, 2, "bac")):
            self.check(("move", ("l",), index, place), ("l",), tuple(there))
        self.check(("move", ("k",), 0, 1), ("k",), (DATA["k"][1], DATA["k"][0]))

    def test_what_is_there_already(self):
        for action in (("set", ("n",), 5), ("set", ("l",), ("a", "b", "c")), ("set", ("r",), {"f": True, "a": "A"}),
                ("move", ("l",), 1, 1), ("move", ("k",), 0, 0)):
            self.assertEqual((self.page.do(action), self.page.evaluated), ((), ()))
            self.assertEqual((self.page.text, self.page.history()[-1]), (new_page().text, action))
        self.assertEqual(len(self.page.history()), 5)

    def test_full_lists(self):
        self.page.change(("l",), ("x",) * 59)
        self.assertEqual(self.page.put_in(("l",), 59, "y")[0][2], "(y)")
        self.assertEqual(len(self.page.data["l"]), 60)
        state = state_of(self.page)
        for index in (0, 59, 60):
            for value in ("z", 5, None, Odd()):
                self.assertEqual(raised(TooManyElements, self.page.put_in, ("l",), index, value).found, 61)
        self.assertEqual(raised(NoSuchPath, self.page.put_in, ("l",), 61, "z").path, ("l", 61))
        self.assertEqual(raised(Unfit, self.page.change, ("l",), ("x",) * 61).path, ("l",))
        self.assertEqual(state_of(self.page), state)
        self.assertEqual(self.page.move(("l",), 59, 0)[0][2], "y")
        self.page.take_out(("l",), 0)
        self.page.put_in(("l",), 0, "w")

    def test_arguments_are_not_modified(self):
        value = {"a": "1", "f": False}
        self.page.change(("r",), value)
        self.page.change(("r", "a"), "2")
        self.assertEqual((value, self.page.data["r"]), ({"a": "1", "f": False}, {"a": "2", "f": False}))
        self.assertEqual(repr(DATA), repr(new_page().data))


class ErrorsTest(unittest.TestCase):
    def setUp(self):
        self.page = new_page()
        self.page.change(("n",), 6)
        self.state = state_of(self.page)

    def tearDown(self):
        self.assertEqual(state_of(self.page), self.state)
        self.assertEqual(self.page.attempts, 0)

    def fails(self, error, field, action):
        """Looks whether an action, by do and by its method, raises an error with this field."""
        methods = {"set": self.page.change, "insert": self.page.put_in, "delete": self.page.take_out,
                "move": self.page.move}
        for call in (lambda: self.page.do(action), lambda: methods[action[0]](*action[1:])):
            found = raised(error, call)
            self.assertEqual(repr(list(vars(found).values())), repr([field]))

    def test_what_is_no_action(self):
        things = ODD + [("set",), ("set", ()), ("set", ("n",)), ("set", ("n",), 1, 2), ("insert", ("l",), 0), ("move",),
                ("insert", ("l",), 0, "a", "b"), ("delete", ("l",)), ("delete", ("l",), 0, 1), ("move", ("l",), 0),
                ("move", ("l",), 0, 1, 2), ["set", ("n",), 1], ("Set", ("n",), 1), ("", ("n",), 1), ("do", ("n",), 1),
                (b"set", ("n",), 1), (("set",), ("n",), 1), (["set"], ("n",), 1), ({}, ("n",), 1), (None, ("n",), 1),
                (Same(), ("n",), 1), (True, ("n",), 1), "set", {"set": 1}]
        for thing in things:
            self.assertIsNone(raised(InvalidAction, self.page.do, thing).index)

    def test_paths(self):
        paths = [None, True, 0, "n", "", [], ["n"], {}, Odd(), Same(), ("x",), ("N",), (0,), (None,), (True,), ("n",
                "a"),
                 ("n", 0), ("l", "0"), ("l", 3), ("l", -1), ("l", True), ("l", False), ("l", 0, 0), ("l", 0, "a"),
                         ("o", 0),
                 ("o", "a"), ("k", 0), ("r", "b"), ("r", 0), ("r", "a", 0), ("r", "f", "a"), (("l",),), (["l"],),
                 ({},), (Odd(),), (Same(),), ("k", 2), ("k", 0, "id", 0), ("k", 0, 0), ("k", "id"), ("l", None),
                 ("l", "a"), ("l", (0,)), ("l", Same()), ("r", Same()), ("k", 0, "t", "a"), ("k", 0, "t", 0)]
        for path in paths:
            if path != ("k", 0):
                self.fails(NoSuchPath, path, ("set", path, 5))
            self.fails(NoSuchPath, path, ("insert", path, "x", 5))
            self.fails(NoSuchPath, path, ("delete", path, "x"))
            self.fails(NoSuchPath, path, ("move", path, "x", "y"))

    def test_paths_to_what_is_no_list(self):
        self.fails(NoSuchPath, (), ("set", (), DATA))
        for path in ((), ("n",), ("r",), ("r", "a"), ("r", "f"), ("o",), ("l", 0), ("k", 0), ("k", 0, "t"), ("k", 1,
                "t")):
            self.fails(NoSuchPath, path, ("insert", path, 0, 5))
            self.fails(NoSuchPath, path, ("delete", path, 0))
            self.fails(NoSuchPath, path, ("move", path, 0, 0))

    def test_indexes_and_places(self):
        wrong = [-1, 4, 100, 10 ** 29, True, False, None, "0", "", "a", (), (0,), [0], {}, Odd(), Same(), b"0"]
        for index in wrong:
            self.fails(NoSuchPath, ("l", index), ("insert", ("l",), index, 5))
            self.fails(NoSuchPath, ("k", 1, "m", index), ("insert", ("k", 1, "m"), index, "a"))
        for index in wrong + [3]:
            self.fails(NoSuchPath, ("l", index), ("delete", ("l",), index))
            self.fails(NoSuchPath, ("l", index), ("move", ("l",), index, "x"))
            self.fails(NoSuchPath, ("l", index), ("move", ("l",), index, index))
            self.fails(NoSuchPath, ("l", index), ("move", ("l",), 0, index))
        for index in (0, -1, True):
            self.fails(NoSuchPath, ("k", 1, "m", index), ("delete", ("k", 1, "m"), index))
            self.fails(NoSuchPath, ("k", 1, "m", index), ("move", ("k", 1, "m"), index, 0))

    def test_data_that_do_not_fit(self):
        row = {"id": 3, "m": (), "t": None}
        for action, path in (
                (("set", ("n",), "5"), ("n",)), (("set", ("n",), True), ("n",)), (("set", ("n",), None), ("n",)),
                (("set", ("r", "f"), 1), ("r", "f")), (("set", ("r",), {"a": ""}), ("r", "f")), (("set", ("l",), []),
                        ("l",)),
                (("set", ("r",), {"a": "", "f": True, "g": 1}), ("r",)), (("set", ("l", 1), ("b",)), ("l", 1)),
                (("set", ("k", 1, "id"), 1), ("k", 1)), (("set", ("k", 0, "id"), 2), ("k", 1)),
                (("set", ("k", 0, "id"), True), ("k", 0, "id")), (("set", ("k", 0), row["m"]), ("k", 0)),
                (("set", ("o",), (1, None)), ("o", 1)), (("set", ("o",), (1, True)), ("o", 1)),
                (("insert", ("l",), 1, 5), ("l", 1)), (("insert", ("l",), 3, None), ("l", 3)),
                (("insert", ("k",), 0, {**row, "id": 1}), ("k", 1)), (("insert", ("k",), 2, {**row, "id": 1}),
                        ("k", 2)),
                (("insert", ("k",), 1, {**row, "m": ("a", 5)}), ("k", 1, "m", 1)), (("insert", ("k",), 0, row["m"]),
                        ("k", 0)),
                (("set", ("n",), Odd()), ("n",)), (("set", ("l", 0), Same()), ("l", 0)), (("set", ("l", 0), b"a"),
                        ("l", 0))):
            self.fails(Unfit, path, action)

    def test_full_histories(self):
        for at in range(99):
            self.page.change(("n",), at)
        self.assertEqual(len(self.page.history()), 100)
        self.state = state_of(self.page)
        for action in (("set", ("n",), 7), ("set", ("n",), 98), ("delete", ("l",), 0), ("move", ("l",), 0, 0)):
            self.fails(TooManyEntries, 101, action)
        self.fails(Unfit, ("n",), ("set", ("n",), ""))
        self.fails(NoSuchPath, ("x",), ("set", ("x",), ""))
        self.assertIsNone(raised(InvalidAction, self.page.do, ()).index)
        self.page.undo()
        self.assertEqual(self.page.data["n"], 97)
        self.page.change(("n",), 98)
        self.assertEqual(len(self.page.history()), 100)

    def test_templates_without_parameters(self):
        page = Page(LIBRARY, "none", {})
        for path in ((), ("a",), (0,), None):
            self.assertEqual(raised(NoSuchPath, page.change, path, 1).path, path)
            self.assertEqual(raised(NoSuchPath, page.put_in, path, 0, 1).path, path)
        self.assertEqual((page.do_all(()), page.text), ((), "x"))


class UndoTest(unittest.TestCase):
    ACTIONS = (("set", ("n",), 7), ("insert", ("l",), 0, "z"), ("delete", ("k",), 1), ("move", ("l",), 0, 3),
               ("set", ("r", "f"), False), ("insert", ("k", 0, "m"), 2, "<"))

    def test_undo_of_every_kind(self):
        page = new_page()
        states = []
        for action in self.ACTIONS:
            states.append((page.text, repr(page.data), page.history()))
            page.do(action)
        self.assertEqual(page.history(), self.ACTIONS)
        while states:
            old = page.text
            patches = page.undo()
            self.assertEqual((page.text, repr(page.data), page.history()), states.pop())
            self.assertEqual(patched(old, patches), page.text)
        self.assertEqual(vars(raised(NothingToUndo, page.undo)), {})
        self.assertEqual(page.text, new_page().text)

    def test_evaluations_of_the_change_back(self):
        page = new_page()
        page.change(("r", "a"), "B")
        self.assertEqual([BODY[at:at + 8] for _, at in page.evaluated], ["{= r.a}{"])
        page.do(("move", ("k",), 0, 1))
        self.assertEqual(page.evaluated, (("page", 0),))
        self.assertEqual((page.undo(), page.evaluated), (((0, 9, "1-pq;2two"),), (("page", 0),)))
        page.undo()
        self.assertEqual([BODY[at:at + 8] for _, at in page.evaluated], ["{= r.a}{"])

    def test_what_methods_and_do_all_did(self):
        page = new_page()
        page.change(("n",), 1)
        page.put_in(("l",), 0, "x")
        page.take_out(("l",), 1)
        page.move(("l",), 0, 1)
        done = (("set", ("n",), 1), ("insert", ("l",), 0, "x"), ("delete", ("l",), 1), ("move", ("l",), 0, 1))
        self.assertEqual(page.history(), done)
        page.do_all(self.ACTIONS[:2])
        self.assertEqual(page.history(), done + self.ACTIONS[:2])
        page.undo()
        self.assertEqual((page.history(), page.data["l"]), (done + self.ACTIONS[:1], ("b", "x", "c")))
        for _ in range(5):
            page.undo()
        raised(NothingToUndo, page.undo)
        self.assertEqual((page.text, page.history()), (new_page().text, ()))

    def test_actions_behind_an_undo(self):
        page = new_page()
        page.change(("n",), 1)
        page.undo()
        page.change(("n",), 2)
        self.assertEqual(page.history(), (("set", ("n",), 2),))
        page.undo()
        self.assertEqual(page.data["n"], 5)

    def test_nothing_to_undo(self):
        page = new_page()
        state = state_of(page)
        error = raised(NothingToUndo, page.undo)
        self.assertIsInstance(error, StateError)
        self.assertEqual(state_of(page), state)


class DoAllTest(unittest.TestCase):
    def setUp(self):
        self.page = new_page()

    def test_none(self):
        self.assertEqual((self.page.do_all(()), self.page.evaluated, self.page.attempts), ((), (), 1))
        self.assertEqual((self.page.text, self.page.history(), self.page.data), (new_page().text, (), DATA))
        self.page.change(("n",), 1)
        state = state_of(self.page)
        self.assertEqual((self.page.do_all(actions=(), observer=None), self.page.evaluated, self.page.attempts),
                         ((), (), 2))
        self.assertEqual(state_of(self.page), state[:2] + ((),) + state[3:])

    def test_one_and_several(self):
        old = self.page.text
        patches = self.page.do_all((("set", ("n",), 7),))
        self.assertEqual((len(patches), patched(old, patches), self.page.attempts), (1, self.page.text, 1))
        old = self.page.text
        patches = self.page.do_all((("set", ("k", 0, "m"), ()), ("set", ("r", "f"), False), ("set", ("n",), 8)))
        start, end, text = patches[0]
        self.assertEqual((len(patches), patched(old, patches)), (1, self.page.text))
        self.assertEqual(self.page.text, "1-;2two;(a)(b)(c)8A")
        # The one patch is the least one: nothing at its ends is there before and behind.
        self.assertEqual((start, end, text), (2, len(old), ";2two;(a)(b)(c)8A"))
        self.assertEqual([BODY[at:at + 5] for _, at in self.page.evaluated], ["{= n}"])
        self.assertEqual(len(self.page.history()), 4)

    def test_a_page_that_is_as_before(self):
        for actions in ((("set", ("n",), 5),), (("set", ("n",), 6), ("set", ("n",), 5)), (("insert", ("l",), 0, "x"),
                ("delete", ("l",), 0))):
            self.assertEqual((self.page.do_all(actions), self.page.text), ((), new_page().text))
        self.assertEqual((len(self.page.history()), self.page.attempts), (5, 3))

    def test_the_observer(self):
        seen = []

        def observer(page, index):
            seen.append((page is self.page, index, page.busy, page.attempts, page.data["n"], page.text, page.evaluated,
                         page.history(), page.tree == render_tree(LIBRARY, "page", page.data)))

        actions = (("set", ("n",), 1), ("set", ("n",), 1), ("set", ("n",), 2))
        self.page.do_all(actions, observer=observer)
        other = new_page()
        for index, action in enumerate(actions):
            other.do(action)
            self.assertEqual(seen[index], (True, index, True, 1, other.data["n"], other.text, other.evaluated,
                             actions[:index + 1], True))
        self.assertEqual((len(seen), self.page.busy, state_of(self.page)), (3, False, state_of(other)))

    def test_the_observer_cannot_change_the_page(self):
        def observer(page, index):
            for call in (lambda: page.do(("set", ("n",), 9)), lambda: page.do(None), lambda: page.change(("n",), 9),
                    lambda: page.change(None, 9), lambda: page.put_in(("l",), 0, "x"), lambda: page.put_in(5, 5, 5),
                    lambda: page.take_out(("l",), 0), lambda: page.take_out((), Odd()), lambda: page.move(("l",), 0, 1),
                    lambda: page.move(1, 2, 3), page.undo, lambda: page.do_all(()), lambda: page.do_all(None),
                    lambda: page.do_all((5,), observer=observer)):
                self.assertEqual(vars(raised(Busy, call)), {})
            self.assertEqual((page.busy, page.attempts), (True, 1))

        self.page.do_all((("set", ("n",), 1), ("set", ("n",), 2)), observer=observer)
        self.assertEqual((self.page.data["n"], len(self.page.history()), self.page.attempts, self.page.busy),
                         (2, 2, 1, False))

    def failing(self, error, actions, observer=None):
        """Looks whether do_all raises the error, and the page is as before."""
        self.page.change(("n",), 3)
        state, attempts = state_of(self.page), self.page.attempts
        with self.assertRaises(error) as caught:
            self.page.do_all(actions, observer=observer)
        self.assertIs(type(caught.exception), error)
        self.assertEqual((state_of(self.page), self.page.attempts), (state, attempts + 1))
        self.page.change(("n",), 4)
        self.assertEqual(self.page.undo()[0][2], "3")
        return caught.exception

    def test_observers_that_raise(self):
        class Own(BaseException):
            """An exception of no class that the program knows."""

        for error in (ValueError, KeyError, Own, KeyboardInterrupt, StopIteration, GeneratorExit, Unfit, NoSuchPath):
            for last in (0, 1, 2):
                def observer(page, index, error=error, last=last):
                    if index == last:
                        raise error(5)

                self.failing(error, (("set", ("n",), 1), ("delete", ("l",), 0), ("set", ("r", "a"), "x")), observer)

    def test_observers_that_let_busy_through(self):
        self.failing(Busy, (("set", ("n",), 1),), lambda page, index: page.undo())
        self.failing(Busy, (("set", ("n",), 1), ("set", ("n",), 2)), lambda page, index: page.do_all(()))
        self.failing(Busy, (("set", ("n",), 1),), lambda page, index: page.change(None, None))

    def test_actions_that_fail(self):
        seen = []

        def observer(page, index):
            seen.append(index)

        good = ("set", ("n",), 1)
        self.assertEqual(self.failing(NoSuchPath, (good, ("set", ("x",), 1), good), observer).path, ("x",))
        self.assertEqual(self.failing(Unfit, (good, good, ("set", ("n",), ""), ("set", ("x",), 1)), observer).path,
                ("n",))
        self.assertEqual(self.failing(NoSuchPath, (("delete", ("l",), 2), ("delete", ("l",), 2)), observer).path, ("l",
                2))
        full = (("set", ("l",), ("x",) * 60), ("insert", ("l",), 0, "y"))
        self.assertEqual(self.failing(TooManyElements, full, observer).found, 61)
        self.assertEqual(self.failing(Unfit, (("set", ("n",), None),), observer).path, ("n",))
        self.assertEqual(seen, [0, 0, 1, 0, 0])

    def test_full_histories(self):
        for _ in range(10):
            self.page.do_all((("set", ("n",), 1),) * 9)
        self.assertEqual(len(self.page.history()), 90)
        error = self.failing(TooManyEntries, (("set", ("n",), 8),) * 11)
        self.assertEqual(error.found, 101)
        self.page.undo()
        self.page.do_all((("set", ("n",), 8),) * 10)
        self.assertEqual((len(self.page.history()), self.page.data["n"]), (100, 8))
        self.assertEqual(self.page.do_all(()), ())

    def test_what_are_no_actions(self):
        state = state_of(self.page)
        for thing in (None, [], [("set", ("n",), 1)], "set", {}, 5, Odd(), Same(), {"a"}):
            self.assertIsNone(raised(InvalidAction, self.page.do_all, thing).index)
        good = ("set", ("n",), 1)
        for thing in ODD + [("set", ("n",)), ["set", ("n",), 1], ("move", ("l",), 0)]:
            self.assertEqual(raised(InvalidAction, self.page.do_all, (thing,)).index, 0)
            self.assertEqual(raised(InvalidAction, self.page.do_all, (good, ("set", 1, 2), thing, thing)).index, 2)
        self.assertEqual((state_of(self.page), self.page.attempts), (state, 0))
        self.assertIsInstance(raised(InvalidAction, self.page.do_all, actions=5), ShapeError)

    def test_the_observer_is_passed_by_name(self):
        with self.assertRaises(TypeError):
            self.page.do_all((), None)

    def test_another_page_works_meanwhile(self):
        other = new_page()

        def observer(page, index):
            self.assertEqual((page.busy, other.busy), (True, False))
            other.do_all((("set", ("n",), index),), observer=lambda inner, _: self.assertTrue(inner.busy and page.busy))
            other.change(("r", "a"), "x")
            self.assertEqual((page.busy, other.busy), (True, False))

        self.page.do_all((("set", ("n",), 8), ("set", ("n",), 9)), observer=observer)
        self.assertEqual((self.page.data["n"], other.data["n"], self.page.attempts, other.attempts), (9, 1, 1, 2))


if __name__ == "__main__":
    unittest.main()
