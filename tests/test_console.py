"""Points 3 to 6 and the section on consoles: commands, their results, and what are none."""

import random
import unittest

from shapekeep.console import Console
from shapekeep.errors import (InUse, InvalidBody, InvalidCommand, InvalidName, InvalidTag, InvalidText, MissingTemplate,
                              Misplaced, NameTaken, NoSuchPath, NothingToUndo, TooManyEntries, TooManyTemplates, Unfit)
from shapekeep.escaping import escape
from shapekeep.library import Library
from shapekeep.pages import Page
from tests.acting import drawn_action
from tests.support import raised
from tests.templates import LibraryGrower


class Odd:
    """An object of no kind that the program knows."""


def console_of(*commands):
    console = Console()
    for command in commands:
        console.run(command)
    return console


class ResultsTest(unittest.TestCase):
    def check(self, console, *pairs):
        for command, result in pairs:
            self.assertEqual(console.run(command), result, command)

    def test_libraries(self):
        self.check(Console(),
                   ("names", "-"),
                   ("define b - ; x", "-"),
                   ("define a {t: text} ; <p>{= t}</p>{= t}", "3:text 12:text"),
                   ("names", "a b"),
                   ("define c {t: text, u: [{a: number} by a]} ; <data>{= u}</data><p a=\"{= t}\"></p>",
                    "6:data 24:attribute"),
                   ("replace b {= 1}<p href=\"/{= 2}?a={= 3}\"></p>", "0:text 15:part 23:query"),
                   ("replace b ", "-"),
                   ("remove a", "b c"),
                   ("names", "b c"),
                   ("remove c", "b"),
                   ("remove b", "-"),
                   ("names", "-"))

    def test_bodies_are_all_that_follows(self):
        console = Console()
        self.check(console, ("define a - ; ", "-"), ("open a {}", ""), ("define b - ;  x ; y \n z ", "-"),
                   ("open b {}", " x ; y \n z "), ("define c - ; a ; {= 1}", "4:text"), ("open c {}", "a ; 1"),
                   ("replace a  - ; x", "-"), ("open a {}", " - ; x"), ("replace a \n", "-"), ("open a {}", "\n"))

    def test_pages(self):
        self.check(Console(),
                   ("define page {l: [text], n: text} ; <p>{= n}</p>{for x in l}<b>{= x}</b>{end}", "3:text 27:text"),
                   ("open page {\"l\":[\"a\",\"b\"],\"n\":\"x y\"}", "<p>x y</p><b>a</b><b>b</b>"),
                   ("evaluated", "page:3 page:12 page:27 page:27"),
                   ("set n \"z\"", "3-6:z"),
                   ("text", "<p>z</p><b>a</b><b>b</b>"),
                   ("evaluated", "page:3"),
                   ("set n \"z\"", "-"),
                   ("evaluated", "-"),
                   ("set l.1 \"&\"", "19-20:&amp;"),
                   ("undo", "19-24:b"),
                   ("evaluated", "page:27"),
                   ("undo", "-"),
                   ("set l []", "8-24:"),
                   ("undo", "8-8:<b>a</b><b>b</b>"),
                   ("undo", "3-4:x y"),
                   ("text", "<p>x y</p><b>a</b><b>b</b>"))

    def test_patches_on_lines_of_their_own(self):
        console = console_of("define a {t: text} ; {= t}<b>{= t}</b>", "open a {\"t\":\"x\"}")
        self.check(console,
                   ("set t \"y\\nz\"", "0-1:y\nz\n4-5:y\nz"),
                   ("text", "y\nz<b>y\nz</b>"),
                   ("undo", "0-3:x\n6-9:x"),
                   ("set t \"\"", "0-1:\n4-5:"))

    def test_values(self):
        console = console_of("define a {v: {b: [number?], f: flag, t: text}?} ; <data>{= v}</data>",
                "open a {\"v\":null}")
        for literal in ("{\"b\":[],\"f\":true,\"t\":\"a b  \"}", "null",
                "{\"b\":[1,null,-20],\"f\":false,\"t\":\"\\l\\\"\\\\\\n\"}"):
            console.run("set v " + literal)
            self.assertEqual(console.run("text"), f"<data>{literal}</data>")
        console.run("set v.b.0 7")
        console.run("set v.t \" ; \"")
        self.assertEqual(console.run("text"), "<data>{\"b\":[7,null,-20],\"f\":false,\"t\":\" ; \"}</data>")

    def test_a_page_goes_on_with_its_templates(self):
        console = console_of("define u {t: text} ; ({= t})", "define page {t: text} ; {use u t=t}",
                "open page {\"t\":\"x\"}")
        self.check(console, ("replace u [{= t}]", "1:text"), ("replace page new", "-"), ("text", "(x)"), ("set t \"y\"",
                   "1-2:y"), ("remove page", "u"), ("remove u", "-"), ("undo", "1-2:x"), ("text", "(x)"),
                   ("evaluated", "page:0 u:1"))

    def test_another_page(self):
        console = console_of("define a {n: number} ; {= n}", "define b - ; b{= 1}", "open a {\"n\":1}", "set n 2")
        self.check(console, ("open b {}", "b1"), ("text", "b1"), ("evaluated", "b:1"))
        raised(NothingToUndo, console.run, "undo")
        raised(Unfit, console.run, "open a {}")
        raised(InvalidCommand, console.run, "open a x")
        self.check(console, ("text", "b1"), ("open a {\"n\":-5}", "-5"), ("set n 0", "0-2:0"))

    def test_names_that_look_like_commands(self):
        console = Console()
        self.check(console, ("define define - ; x", "-"), ("define text {text: text} ; {= text}", "0:text"),
                   ("open text {\"text\":\"a\"}", "a"), ("set text \"b\"", "0-1:b"), ("names", "define text"),
                   ("replace define text", "-"), ("open define {}", "text"))

    def test_by_name(self):
        self.assertEqual(Console().run(command="names"), "-")

    def test_equality(self):
        one, other = Console(), Console()
        self.assertTrue(one == one and one != other and not one == other and one)
        self.assertFalse(one == "names")

    def test_what_the_objects_answer(self):
        for seed in range(15):
            grower = LibraryGrower(random.Random(seed))
            library, console = grower.grow(5), Console()
            for name in library.names:
                parameters = library[name].parameters
                contexts = console.run(f"define {name} {parameters or '-'} ; {library[name].body}")
                self.assertEqual(contexts, " ".join(f"{at}:{context}" for at, context in library[name].contexts) or "-")
            for name in library.names:
                data = grower.data(name)
                page = Page(library, name, data)
                self.assertEqual(console.run(f"open {name} " + escape("data", data)), page.text)
                for _ in range(4 if data else 0):
                    word, path, *rest = drawn_action(grower, library[name].parameters, page.data)
                    if word == "set" and path:
                        patches = page.change(path, rest[0]) if self.fits(page, path, rest[0]) else None
                        if patches is None:
                            continue
                        written = ".".join(map(str, path)) + " " + escape("data", rest[0])
                        self.assertEqual(console.run("set " + written),
                                "\n".join(f"{start}-{end}:{text}" for start, end, text in patches) or "-")
                        self.assertEqual(console.run("text"), page.text)
                        self.assertEqual(console.run("evaluated"),
                                " ".join(f"{called}:{at}" for called, at in page.evaluated) or "-")

    def fits(self, page, path, value):
        try:
            page.change(path, value)
        except Unfit:
            return False
        page.undo()
        return True


class InvalidCommandTest(unittest.TestCase):
    def setUp(self):
        self.console = console_of("define a {l: [text], n: number, r: {a: text}} ; {= n}{for x in l}{= x}{end}{= r.a}",
                "define b - ; x", "open a {\"l\":[\"p\"],\"n\":1,\"r\":{\"a\":\"q\"}}", "set n 2")

    def tearDown(self):
        self.assertEqual([self.console.run(word) for word in ("names", "text", "evaluated")], ["a b", "2pq", "a:0"])
        self.assertEqual(self.console.run("undo"), "0-1:1")

    def refused(self, *commands):
        for command in commands:
            self.assertIs(raised(InvalidCommand, self.console.run, command).command, command)

    def test_what_is_no_text(self):
        self.refused(None, True, 1, (), ("names",), ["names"], {}, b"names", Odd(), Console)

    def test_words_that_are_no_commands(self):
        self.refused("", " ", "x", "Names", "NAMES", "name", "names\n", "\nnames", "defines a - ; x", "-", "close",
                "do",
                     "texts", "history", "move l 0 0", "define\ta - ; x")

    def test_words_that_are_missing(self):
        self.refused("define", "define c", "define c -", "define c - ;", "define c -; x", "define c - ;x",
                "define c ; x",
                     "replace", "replace a", "remove", "open", "open a", "set", "set n", "define c {n: number}")

    def test_words_that_are_empty(self):
        self.refused(" names", "names ", " text", "text ", "undo ", "evaluated ", "  ", "remove ", "remove  a",
                "remove a ",
                     "define  c - ; x", " define c - ; x", "define  - ; x", "define c  ; x", "define ", "define c ",
                     "replace  a x", "replace  x", "replace ", " replace a x", "open  a {}", "open  {}", "open ",
                             "open b ",
                     "set  n 1", "set n  1", "set  1", "set ", "set n ", " set n 1", "open b  {}", "set n 1 ",
                             "open b {} ")

    def test_words_too_many(self):
        self.refused("names a", "remove a b", "remove b c", "undo 1", "text a", "evaluated a", "names  ", "remove b -")

    def test_paths(self):
        self.refused("set . 1", "set n. 1", "set .n 1", "set l..0 \"a\"", "set N 1", "set l.00 \"a\"", "set l.01 \"a\"",
                     "set l.-1 \"a\"", "set l.+1 \"a\"", "set l.1000000000000000 \"a\"", "set l.0x \"a\"",
                             "set l.a1 \"a\"",
                     "set abcdefghijklm 1", "set l,0 \"a\"", "set l.1_0 \"a\"", "set l\n 1", "set \n 1",
                             "set l.0\n \"a\"",
                     "set l.0123456789012345 \"a\"", "set () 1", "set n/ 1")

    def test_values(self):
        self.refused("set n x", "set n 01", "set n -0", "set n 1.0", "set n +1", "set n True", "set n None",
                "set n 'a'",
                     "set n \"a", "set n a\"", "set n [1", "set n [1,]", "set n [1, 2]", "set n {\"b\":1,\"a\":2}",
                     "set n {\"a\":1,\"a\":2}", "set n {\"a\" :1}", "set n {a:1}", "set n \"<\"", "set n \"\\t\"",
                             "set n \n1",
                     "set n 1\n", "set n \"\n\"", "set n " + "[" * 7 + "]" * 7, "set n [" + "1," * 60 + "1]",
                             "set n truex",
                     "open a x", "open b []x", "open b { }", "open nothing {", "open b ()", "set x.y.z x")

    def test_no_page(self):
        console = Console()
        for command in ("set n 1", "undo", "text", "evaluated", "set n x", "set"):
            self.assertEqual(raised(InvalidCommand, console.run, command).command, command)
        console.run("define a - ; x")
        raised(MissingTemplate, console.run, "open b {}")
        raised(InvalidCommand, console.run, "text")
        self.assertEqual(console.run("open a {}"), "x")
        self.assertEqual((console.run("text"), console.run("evaluated")), ("x", "-"))


class OtherErrorsTest(unittest.TestCase):
    def setUp(self):
        self.console = console_of("define a {l: [text], n: number} ; {= n}{for x in l}{= x}{end}", "define c - ; c",
                "define b - ; {use c}", "open a {\"l\":[\"p\"],\"n\":1}")

    def tearDown(self):
        self.assertEqual([self.console.run(word) for word in ("names", "text", "evaluated")],
                         ["a b c", "1p", "a:0 a:5 a:17"])
        raised(NothingToUndo, self.console.run, "undo")

    def fails(self, error, command, *fields):
        self.assertEqual(tuple(vars(raised(error, self.console.run, command)).values()), fields)

    def test_define(self):
        self.fails(InvalidName, "define A - ; x", "A")
        self.fails(InvalidName, "define a\nb - ; x", "a\nb")
        self.fails(InvalidName, "define ; - ; x", ";")
        self.fails(NameTaken, "define a - ; {", "a")
        self.fails(InvalidText, "define d text ; {", "text")
        self.fails(InvalidText, "define d {n:number} ; {", "{n:number}")
        self.fails(InvalidText, "define d  - ; x", " -")
        self.fails(InvalidText, "define d -  ; x", "- ")
        self.fails(InvalidText, "define d {n: number}\n ; x", "{n: number}\n")
        self.fails(InvalidText, "define d -x y ; x ; y", "-x y")
        self.fails(InvalidBody, "define d - ; a{", 2)
        self.fails(InvalidBody, "define d - ; }", 0)
        self.fails(InvalidTag, "define d - ; a{= n}", 1)
        self.fails(Misplaced, "define d - ; <p></q>", 5, "markup")

    def test_replace_remove_and_open(self):
        self.fails(InvalidName, "replace A x", "A")
        self.fails(MissingTemplate, "replace d x", "d")
        self.fails(InvalidBody, "replace a {x}", 0)
        self.fails(Misplaced, "replace a <p>", 3, "end")
        self.fails(InvalidName, "remove A", "A")
        self.fails(MissingTemplate, "remove d", "d")
        self.fails(InUse, "remove c", "b")
        self.fails(MissingTemplate, "open A {}", "A")
        self.fails(MissingTemplate, "open d 5", "d")
        self.fails(Unfit, "open a {\"n\":1}", ("l",))
        self.fails(Unfit, "open a 5", ())
        self.fails(Unfit, "open b []", ())

    def test_set(self):
        self.fails(NoSuchPath, "set x 1", ("x",))
        self.fails(NoSuchPath, "set l.1 \"a\"", ("l", 1))
        self.fails(NoSuchPath, "set l.999999999999999 \"a\"", ("l", 10 ** 15 - 1))
        self.fails(NoSuchPath, "set 0 \"a\"", (0,))
        self.fails(NoSuchPath, "set l.a \"a\"", ("l", "a"))
        self.fails(Unfit, "set n \"1\"", ("n",))
        self.fails(Unfit, "set n true", ("n",))
        self.fails(Unfit, "set l [1]", ("l", 0))

    def test_limits(self):
        console = Console()
        for at in range(40):
            console.run(f"define {'abcdefgh'[at // 8]}{'abcdefgh'[at % 8]} - ; x")
        self.assertEqual(raised(TooManyTemplates, console.run, "define z - ; x").found, 41)
        console.run("remove aa")
        console.run("define z {n: number} ; {= n}")
        console.run("open z {\"n\":0}")
        for at in range(100):
            console.run(f"set n {at}")
        self.assertEqual(raised(TooManyEntries, console.run, "set n 5").found, 101)
        self.assertEqual(console.run("text"), "99")


if __name__ == "__main__":
    unittest.main()
