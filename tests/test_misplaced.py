"""Points 15 and 16: bodies that are accepted, and why others are not."""

import unittest

from shapekeep.errors import Misplaced
from shapekeep.library import Library
from tests.support import raised

PARAMETERS = "{f: flag, k: [{id: number} by id], l: [text], n: number, o: text?, r: {a: text}, t: text}"
DEEP = "<a>" * 30
END = "</a>" * 30

ACCEPTED = [
    "", "a", "{(}{)}", "a > \"b\" 'c' &amp;&lt;", "<p></p>", "{* < & *}", "<p>{= t}</p>{= n}",
    "<p a=\"{= t}\" b=\"{= n}x{= t}\"></p>", "<a href=\"/{= t}/{= n}?a={= t};b={= n}\"></a>",
    "<data>{= o}</data><data>{= l}</data><data>{= f}</data><data>{= k}</data><data>{= r}</data><data>{= t}</data>",
    # Branches that lead to the same place, also by different texts.
    "{if f}a{else}<p></p>{end}", "<p x=\"\"{if f} a=\"b\"{end}></p>", "<p{if f} a=\"\"{else} href=\"/\"{end}>x</p>",
    "<p {if f}a{else}b{end}=\"\"></p>", "<p {if f}ab{else}ha{end}c=\"\"></p>", "<{if f}p{else}p{end}></p>",
    "<p a{if f}b=\"{else}c=\"{end}\"></p>", "<p a=\"&{if f}am{else}am{end}p;\"></p>", "&{if f}amp{else}lt{end};",
    "<p a=\"&{if f}l{else}quo{end}t;\"></p>", "<p href=\"/~{if f}4{else}6{end}0\"></p>",
    "<p href=\"/~{if f}5{else}7{end}b\"></p>", "<p href=\"/{if f}?a={else}?b=c;d={end}{= t}\"></p>",
    "<data>{if f}tru{else}fals{end}e</data>", "<data>{if f}1{else}20{end}</data>", "<data>{if f}0{else}[]{end}</data>",
    "<data>{if f}{= o}{else}null{end}</data>", "<data>[{if f}1{else}2{end},3]</data>",
    "<data>{(}\"{if f}a\":1,\"c{else}b\":1,\"c{end}\":2{)}</data>", "<data>\"{if f}a{else}\\l{end}\"</data>",
    "<p>{if f}<b></b{else}<i></i{end}></p>", "{if f}<data>0</{else}<xdata></x{end}data>",
    "<abcdefghijkl{if f} a=\"b\"{end}></abcdefghijkl>", "{if f}{if f}<p>{else}<p a=\"\">{end}{else}<p>{end}</p>",
    "{if f}<p>a</p>{else}{end}", "{if f}{else}a{end}", "<p a=\"\"{if f}{else}{if f} a=\"\"{end}{end}></p>",
    "{if f}{slot}{else}x{end}", "<p a=\"{if f}{= t}{else}y{end}\"></p>",
    # Loops that lead back.
    "{for x in l}a{end}", "{for x in l}<p>{= x}</p>{end}", "<p a=\"{for x in l}{= x}, {end}\"></p>",
    "<p a=\"\"{for x in l} a=\"{= x}\"{end}></p>", "<p href=\"/{for x in l}{= x}/{end}\"></p>",
    "<p href=\"/?a=b{for x in l};c={= x}{end}\"></p>", "<p href=\"/?{for x in l}c={= x};{end}a=b\"></p>",
    "<p {for x in l}a=\"{= x}\" {end}b=\"\"></p>", "<{for x in l}{end}p></p>", "<data>{for x in l}{end}1</data>",
    "<data>\"{for x in l}a{end}\"</data>", "<data>1{for x in l}0{end}</data>", "<p>{for x in l}</p><p>{end}</p>",
    "<p>{for x in k}{= x.id}{for y in l}{= y}{end}{end}</p>", "<abcdefghijkl{for x in l} a=\"\"{end}></abcdefghijkl>",
    "{for x in l}{slot}{end}",
    # Lets lead where their parts lead.
    "{let x = t}<p>{end}</p>", "<p{let x = t} a=\"{= x}\"{end}></p>", "<{let x = t}p{end}></p>",
    "<data>{let x = t}{= x}{end}</data>", "<data>{let x = t}tr{end}ue</data>", "{let x = f}{end}",
    # Uses, wraps and slots at text places.
    "{use empty}", "<p>{use empty}</p>", "a{use empty}&amp;{use empty}<data>1</data>{use empty}", "{wrap frame}{end}",
    "<p>{wrap frame}<b>x</b>{= t}{end}</p>", "{slot}", "<p a=\"\">{slot}</p>", "{wrap frame}<p>{slot}</p>{end}",
    "{wrap frame}{wrap frame}{use empty}{end}{end}", DEEP + "{use empty}{slot}<data>{= n}</data>" + END,
    DEEP[3:] + "{wrap frame}<data>1</data>{end}" + END[4:], DEEP + "{= t}" + END,
    DEEP[:-1] + " a=\"{= t}\">" + END,
]

# Bodies, and the index and the reason of what comes first.
CASES = [
    # A literal character that leads nowhere.
    ("</p>", 1, "markup"), ("<p></q>", 5, "markup"), ("a<>", 2, "markup"), ("&x", 1, "markup"),
    ("<p a=b>", 5, "markup"), ("<p a=\"<\">", 6, "markup"), ("<p href=\"a\">", 9, "markup"),
    ("<p href=\"/ \">", 10, "markup"),
    ("<data>a</data>", 6, "markup"), ("<data></data>", 6, "markup"), ("<data>[1,]</data>", 9, "markup"),
    ("<data>{(}{)}x</data>", 12, "markup"), ("<{(}", 1, "markup"), ("<p{)}>", 2, "markup"),
    ("a{* <> *}<{*x*}>", 15, "markup"), ("<p>{= t}</q>", 10, "markup"), ("<data>{= t}x</data>", 11, "markup"),
    ("<data>{= t},</data>", 11, "markup"), ("<p a=\"{= t}<\">", 11, "markup"),
    ("<a href=\"/{= t} \">", 15, "markup"), ("<a href=\"/?a={= t}/\">", 18, "markup"), ("{if f}</p>{end}", 7, "markup"),
    ("{if f}a{else}</p>{end}", 14, "markup"), ("{for x in l}<<{end}", 13, "markup"),
    ("{let x = t}<p></b>{end}", 16, "markup"), ("<p>{if f}</p>{else}</p>{end}</p>", 29, "markup"),
    ("{use empty}</p>", 12, "markup"), ("{slot}</p>", 7, "markup"), (DEEP + "<a></a>" + END, 91, "markup"),
    (DEEP + "{if f}<b></b>{end}" + END, 97, "markup"), ("<data>[" + "1," * 59 + "{if f}1{else}2{end},3]</data>", 144,
    "markup"),
    ("<data>[[[[[[[]]]]]]]</data>", 12, "markup"), ("<data>{(}\"b\":1,\"a\":2{)}</data>", 16, "markup"),
    ("<data>{(}\"z{**}a\":1,\"y\":2{)}</data>", 21, "markup"), ("<data>-{**}0</data>", 11, "markup"),
    # The part of a wrap goes from its own beginning.
    ("<p>{wrap frame}</p>{end}", 16, "markup"), ("<p>{wrap frame}</p><p>{end}</p>", 16, "markup"),
    ("{wrap frame}<p></q>{end}", 17, "markup"), ("{wrap frame}{wrap frame}</p>{end}{end}", 25, "markup"),
    ("<p>{wrap frame}<b></b></p>{end}", 23, "markup"), (DEEP + "{wrap frame}" + DEEP + "<a>{end}", 193, "markup"),
    # A hole without a context.
    ("<{= t}", 1, "hole"), ("<{= t}>a</p>", 1, "hole"), ("<p{= t}>", 2, "hole"), ("<p {= t}>", 3, "hole"),
    ("<p {= t}=\"\">", 3, "hole"), ("<p a{= t}=\"\">", 4, "hole"), ("<p a={= t}>", 5, "hole"),
    ("<p a=\"\"{= t}>", 7, "hole"),
    ("&{= t};", 1, "hole"), ("&amp{= t}", 4, "hole"), ("<p a=\"&{= t}\">", 7, "hole"), ("<p href={= t}>", 8, "hole"),
    ("<p href=\"{= t}\">", 9, "hole"), ("<p href=\"/~{= t}\">", 11, "hole"), ("<p href=\"/~2{= t}\">", 12, "hole"),
    ("<p href=\"/?{= t}=b\">", 11, "hole"), ("<p href=\"/?a{= t}=b\">", 12, "hole"), ("<p href=\"/?a=b;{= t}\">", 15,
    "hole"), ("<p></{= t}>", 5, "hole"), ("<p></p{= t}>", 6, "hole"), ("<data{= t}>", 5, "hole"),
    ("<data>\"{= t}\"</data>", 7, "hole"), ("<data>[{= t}]</data>", 7, "hole"), ("<data>[1,{= n}]</data>", 9, "hole"),
    ("<data>{(}{= t}</data>", 9, "hole"), ("<data>{(}\"a\":{= t}{)}</data>", 13, "hole"),
    ("<data>{(}\"{= t}\":1{)}</data>", 10, "hole"), ("<data>1{= n}</data>", 7, "hole"), ("<data>-{= n}</data>", 7,
    "hole"), ("<data>0{= n}</data>", 7, "hole"), ("<data>t{= t}</data>", 7, "hole"), ("<data>{= n}{= n}</data>", 11,
    "hole"),
    ("<data>{= n}<{= n}", 12, "hole"), ("<data>1<{= n}", 8, "hole"), ("<data>1</data{= n}>", 13, "hole"),
    ("<p a=\"\">{= t}</{= t}>", 15, "hole"), ("<{= f}", 1, "hole"), ("<p{= l}>", 2, "hole"),
    # A hole of another type, outside of data.
    ("{= f}", 0, "kind"), ("<p>{= o}</p>", 3, "kind"), ("{= l}", 0, "kind"), ("{= k}", 0, "kind"), ("{= r}", 0, "kind"),
    ("{= true}", 0, "kind"), ("{= has(o)}", 0, "kind"), ("<p a=\"{= f}\">", 6, "kind"), ("<p a=\"x{= o}\">", 7, "kind"),
    ("<p href=\"/{= f}\">", 10, "kind"), ("<p href=\"/?a={= r}\">", 13, "kind"), ("{= t}{= n}{= f}", 10, "kind"),
    ("{for x in k}{= x}{end}", 12, "kind"), ("{let x = f}{= x}{end}", 11, "kind"), ("{wrap frame}{= o}{end}", 12,
    "kind"),
    # A use, a wrap or a slot elsewhere.
    ("<p a=\"{use empty}\">", 6, "use"), ("<{use empty}", 1, "use"), ("<p{slot}>", 2, "use"), ("<p {wrap frame}{end}>",
    3, "use"), ("<data>{use empty}</data>", 6, "use"), ("<data>{= t}{slot}</data>", 11, "use"),
    ("<data>\"{slot}\"</data>", 7, "use"),
    ("<a href=\"/{slot}\">", 10, "use"), ("<a href=\"/?a={use empty}\">", 13, "use"), ("&{slot}", 1, "use"),
    ("<p a=\"{wrap frame}</p>{end}\">", 6, "use"), ("<p a=\"{wrap frame}<{end}\">", 6, "use"),
    ("{wrap frame}<p a=\"{slot}\">{end}", 18, "use"),
    ("<p></{slot}p>", 5, "use"), ("<p a=\"{if f}{slot}{end}\">", 12, "use"), ("<data>1{use empty}</data>", 7, "use"),
    # Parts of an if that lead to different places.
    ("{if f}<p>{end}", 9, "branches"), ("{if f}<p>{else}<q>{end}", 18, "branches"),
    ("<p{if f} id=\"w\"{else} id={end}>", 25, "branches"), ("{if f}{else}<{end}", 13, "branches"),
    ("<p>{if f}</p>{end}", 13, "branches"),
    ("<{if f}p{else}q{end}>", 15, "branches"), ("<p {if f}a{else}h{end}ref=\"\">", 17, "branches"),
    ("<p {if f}a{else}ab{end}=\"\">", 18, "branches"), ("<data>{if f}1{else}0{end}</data>", 20, "branches"),
    ("<data>{if f}{= n}{end}</data>", 17, "branches"),
    ("<data>{if f}{= n}{else}1{end}</data>", 24, "branches"), ("<data>[{if f}1,{end}1]</data>", 15, "branches"),
    ("<data>{(}\"{if f}a{else}b{end}\":1{)}</data>", 24, "branches"), ("<a href=\"/{if f}?a={end}\">", 19, "branches"),
    ("<p a=\"{if f}&{else}&amp;{end}\">", 24, "branches"), ("&{if f}a{else}l{end}", 15, "branches"),
    ("<p href=\"/~{if f}4{else}5{end}0\">", 25, "branches"), ("{if f}{if f}<p>{end}{end}", 15, "branches"),
    ("{if f}{if f}<p>{else}<p>{end}{end}", 29, "branches"), ("{for x in l}{if f}<p>{end}{end}", 21, "branches"),
    ("{wrap frame}{if f}<p>{end}{end}", 21, "branches"), ("{let x = t}{if f}<p>{end}{end}", 20, "branches"),
    ("{if f}<p a=\"\"{else}<p b{end}>", 23, "branches"),
    # The part of a for or a wrap that does not lead back.
    ("{for x in l}<p>{end}", 15, "loop"), ("<p>{for x in l}</p>{end}", 19, "loop"), ("<{for x in l}p{end}>", 14,
    "loop"), ("<p {for x in l}a{end}=\"\">", 16, "loop"), ("<data>{for x in l}{= x}{end}</data>", 23, "loop"),
    ("<data>{for x in l}1{end}</data>", 19, "loop"),
    ("<data>[{for x in l}1,{end}1]</data>", 21, "loop"), ("<data>[1{for x in l},1{end}]</data>", 22, "loop"),
    ("<a href=\"/{for x in l}?a=b{end}\">", 26, "loop"), ("{for x in l}&{end}", 13, "loop"),
    ("{wrap frame}<p>{end}", 15, "loop"), ("{wrap frame}<{end}", 13, "loop"),
    ("{wrap frame}&amp{end}", 16, "loop"), ("{for x in l}{let y = x}<p>{end}{end}", 31, "loop"),
    ("{wrap frame}{for x in l}<p>{end}{end}", 27, "loop"), ("{for x in l}{wrap frame}<p>{end}</p>{end}", 27, "loop"),
    ("<data>\"{for x in l}\\{end}\"</data>", 20, "loop"),
    ("<p{for x in l} a=\"\" {end}>", 20, "loop"), ("{for x in l}<p>{if f}</p>{else}</p>{end}<p>{end}", 43, "loop"),
    # A whole body that does not lead back.
    ("<p>", 3, "end"), ("<", 1, "end"), ("&", 1, "end"), ("<p></p", 6, "end"), ("<data>{= t}", 11, "end"),
    ("<data>1", 7, "end"), ("<p>{* x *}", 10, "end"), ("{if f}<p>{else}<p>{end}", 23, "end"),
    ("{let x = t}<p>{end}", 19, "end"), ("<p a=\"{= t}", 11, "end"),
    ("<p>{wrap frame}{end}", 20, "end"), ("<p>{slot}{(}", 12, "end"),
    # What comes first.
    ("{= f}<p{= t}>", 0, "kind"), ("<p{= t}>{= f}", 2, "hole"), ("<p>{if f}<b>{end}</q>", 12, "branches"),
    ("{if f}<p>{= f}{else}{end}", 9, "kind"), ("{for x in l}<p{slot}>{end}", 14, "use"), ("{for x in l}<p></q>{end}<",
    17, "markup"),
    ("{use empty}<p{use empty}></q>", 13, "use"), ("{wrap frame}<p>{end}<", 15, "loop"), ("{if f}<{else}>{end}</", 14,
    "branches"), ("a{wrap frame}{= o}<p>{end}", 13, "kind"), ("<p>{for x in l}</p>{end}</q>", 19, "loop"),
]


def library():
    found = Library()
    found.define("empty", "", "")
    found.define("frame", "", "<div>{slot}</div>")
    return found


class AcceptedTest(unittest.TestCase):
    def test_bodies_that_are_accepted(self):
        for body in ACCEPTED:
            self.assertEqual(library().define("x", PARAMETERS, body).body, body)

    def test_bodies_that_are_not(self):
        for body, position, reason in CASES:
            error = raised(Misplaced, library().define, "x", PARAMETERS, body)
            self.assertEqual((error.position, error.reason), (position, reason), body)

    def test_replaced_bodies(self):
        for body, position, reason in CASES:
            found = library()
            found.define("x", PARAMETERS, "")
            error = raised(Misplaced, found.replace, "x", body)
            self.assertEqual((error.position, error.reason), (position, reason), body)
            self.assertEqual((found["x"].body, found.compilations), ("", 3))


if __name__ == "__main__":
    unittest.main()
