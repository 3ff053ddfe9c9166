"""Points 12 and 15: which texts lead to the same place, and which context is there."""

import unittest
from unittest import mock

from shapekeep import places
from shapekeep.errors import InvalidText
from shapekeep.escaping import context_of, escape, same_place
from tests.support import raised

TWELVE = "abcdefghijkl"
LAST = "z" * 12
DEEP = "<a>" * 30

# Texts that lead to a place with a context.
CONTEXTS = {
    "text": ["", "a", "\n", "\"'>/=;", "&amp;", "a&lt;", "<p>", "<p>a", "<p></p>", "<p>a<b>c</b>d", "<data>0</data>",
             "<p><data>null</data>", "<p a=\"b\">", "<p href=\"/\">", DEEP, DEEP + "a", "<p></p><p>", "<href>",
             "<datas>",
             "<dat>", "<" + TWELVE + ">"],
    "attribute": ["<p a=\"", "<p a=\"b", "<p a=\"&lt;", "<p a=\"&amp;&quot;>'/\n", "<p a=\"b\" c=\"", "<p data=\"",
                  "<p hrefs=\"", "<p hre=\"", "<p " + TWELVE + "=\"", "<p href=\"/\" a=\"", DEEP[:-1] + " a=\""],
    "part": ["<a href=\"/", "<a href=\"/x", "<a href=\"/x/", "<a href=\"//", "<a href=\"/~20", "<a href=\"/Az09-_.",
             "<a b=\"\" href=\"/", "<a href=\"/?a=b\" href=\"/", "<href href=\"/"],
    "query": ["<a href=\"/?k=", "<a href=\"/x?k=v", "<a href=\"/?k=v;l=", "<a href=\"/?k=~2f", "<a href=\"/?href=",
              "<a href=\"/?" + TWELVE + "="],
    "data": ["<data>", "a<data>", "<p><data>", "<data>1</data><data>", DEEP + "<data>"],
    "none": ["<", "<p", "<da", "<data", "<datas", "<p ", "<p a", "<p href", "<p href=", "<p href=\"", "<p a=",
    "<p a=\"\"",
             "<p a=\"&", "<p a=\"&quot", "&", "&a", "&amp", "&l", "<p></", "<p></p", "<a href=\"/~",
             "<a href=\"/~2", "<a href=\"/?", "<a href=\"/?k", "<a href=\"/?k=v;", "<a href=\"/?k=~", "<a href=\"/\"",
             "<data>1", "<data>0", "<data>-", "<data>\"", "<data>\"a", "<data>\"\\", "<data>\"a\"", "<data>[",
             "<data>[1,",
             "<data>[1]", "<data>{", "<data>{\"", "<data>{\"a", "<data>{\"a\"", "<data>{\"a\":", "<data>{\"a\":1,",
             "<data>t",
             "<data>null", "<data>null<", "<data>null</data", DEEP + "<", DEEP + "<d", DEEP + "<data", DEEP + "</"],
}

NOWHERE = ["</", "</p>", "<>", "< ", "<1", "<P", "<p<", "<p\n", "<p  ", "<p a ", "<p a>", "<p =", "<p a=b", "<p a='",
        "<p/",
           "<data ", "<data/", "<data a=\"", "<p></q", "<p><b></p", "<p></p ", "<p></>", "&x", "&ampx", "&quot", "&gt",
           "&&",
           "<p a=\"<", "<p a=\"\"b", "<p a=\"&g", "<a href=\"a", "<a href=\"\"", "<a href=\"?", "<a href=\"/ ",
           "<a href=\"/%",
           "<a href=\"/=", "<a href=\"/;", "<a href=\"/&", "<a href=\"/~0b", "<a href=\"/~2A", "<a href=\"/~2d",
           "<a href=\"/~2e",
           "<a href=\"/~25", "<a href=\"/~30", "<a href=\"/~41", "<a href=\"/~5f", "<a href=\"/~7f", "<a href=\"/~8",
           "<a href=\"/~1",
           "<a href=\"/?=", "<a href=\"/??", "<a href=\"/?\"", "<a href=\"/?k\"", "<a href=\"/?k;", "<a href=\"/?k=/",
           "<a href=\"/?k=?",
           "<a href=\"/?k==", "<a href=\"/?k=v&", "<a href=\"/?k=v;\"", "<a href=\"/?k=v;;", "<a href=\"/?K",
           "<a href=\"/?k1",
           "<p abcdefghijklm", "<abcdefghijklm", "<a href=\"/?abcdefghijklm",
           "<data> ", "<data><", "<data></data>", "<data>00", "<data>01", "<data>-0", "<data>--", "<data>- ", "<data>+",
           "<data>1.",
           "<data>1 ", "<data>a", "<data>tr1", "<data>nil", "<data>True", "<data>\"\n", "<data>\"<", "<data>\"\\t",
           "<data>\"\\<",
           "<data>\"\"\"", "<data>[,", "<data>[ ", "<data>[1,]", "<data>[1 ", "<data>[}", "<data>]", "<data>}",
           "<data>{a",
           "<data>{1", "<data>{,", "<data>{\"\"", "<data>{\"A", "<data>{\"a1", "<data>{\"a\",", "<data>{\"a\" ",
           "<data>{\"a\":1,}",
           "<data>{\"a\":1]", "<data>{\"b\":1,\"a", "<data>{\"a\":1,\"a\"", "<data>{\"ab\":1,\"a\"",
           "<data>{\"ab\":1,\"aa",
           "<data>1</p", "<data>1</data></", "<data>{\"" + LAST + "\":1,", "<data>{\"" + TWELVE + "\":1,\"" + TWELVE,
           "<data>{\"abcdefghijkz\":1,\"abcdefghijk", "<data>[[[[[[[", "<data>[[[[[[{", "<data>[[[[[{\"a\":[",
           "<data>{\"abcdefghijklm",
           "<data>[" + "1," * 60, DEEP + "<a", DEEP + "<dat>", DEEP + "<datas", DEEP + "<p"]

# Groups of texts that lead to the same place; those of two groups do not.
GROUPS = [
    ["", "a", "&amp;", "<p></p>", "<p a=\"b\">c</p>", "<data>0</data>", "<data>[1]</data>x"],
    ["<p>", "<p>a", "<p>a<b></b>", "<p a=\"b\">", "x<p><data>1</data>", "<b></b><p>&lt;"],
    ["<q>", "<q>a"], ["<p><p>"], ["<p><q>"], ["<q><p>"], ["<pp>"],
    ["&", "a&", "<p></p>&"], ["&a"], ["&am"], ["&l"], ["&lt", "&amp"], ["<p>&"], ["<p>&lt", "<p>&amp"],
    ["<", "a<"], ["<p><", "<p>a<"], [DEEP + "<"], ["<p"], ["<q"], ["<pp"], ["<pq"], ["<d"], ["<da"], ["<dat"],
    ["<data"], ["<datas"],
    ["<" + TWELVE, "<" + TWELVE + " a=\"b\"", "<" + TWELVE + " href=\"/\""], ["<p a=\"\"", "<p href=\"/a?b=c\"",
    "<p a=\"\" b=\"c\""],
    ["<q a=\"\""],
    ["<p ", "<p a=\"b\" "], ["<q "],
    ["<p a", "<p b", "<p d", "<p a=\"b\" c", "<p z"], ["<p h"], ["<p ab", "<p ha", "<p rh", "<p da"], ["<p hr"],
    ["<p abc", "<p hra", "<p dat"],
    ["<p hre"], ["<p abcd", "<p hrea", "<p data"], ["<p href"], ["<p abcde", "<p hrefa", "<p datas"],
    ["<p abcdefghijk", "<p hrefghijklm"], ["<p " + TWELVE, "<p hrefhrefhref", "<p datadatadata"],
    ["<p a=", "<p data=", "<p hrefs=", "<p " + TWELVE + "="], ["<p href="], ["<q a="],
    ["<p href=\""], ["<p href=\"/", "<p href=\"//", "<p href=\"/a/b", "<p href=\"/~20"],
    ["<p a=\"", "<p b=\"c", "<p a=\"&quot;"], ["<q a=\""],
    ["<p a=\"&"], ["<p a=\"&a"], ["<p a=\"&q"], ["<p a=\"&qu"], ["<p a=\"&quo", "<p a=\"&l"],
    ["<p a=\"&quot", "<p a=\"&lt", "<p a=\"&amp"],
    ["<p a=\"&am"],
    ["<p href=\"/~", "<p href=\"/a~"], ["<p href=\"/~0"], ["<p href=\"/~2"], ["<p href=\"/~3"],
    ["<p href=\"/~4", "<p href=\"/x/~6"],
    ["<p href=\"/~5", "<p href=\"/~7"], ["<p href=\"/?k=~4", "<p href=\"/?k=~6"],
    ["<p href=\"/?k=~7", "<p href=\"/?k=~5"], ["<p href=\"/?k=~"],
    ["<p href=\"/?", "<p href=\"/a?", "<p href=\"/?k=v;"], ["<p href=\"/?k", "<p href=\"/?l", "<p href=\"/?h"],
    ["<p href=\"/?kk", "<p href=\"/?hr", "<p href=\"/?k=v;kl"], ["<p href=\"/?href", "<p href=\"/?data",
    "<p href=\"/?abcd"],
    ["<p href=\"/?" + TWELVE, "<p href=\"/?datahrefdata"], ["<p href=\"/?k=", "<p href=\"/?kk=v",
    "<p href=\"/?k=v;l=~0a"],
    ["<p><b></", "<p><b>a</"], ["<p><b></b", "<p><i></i", "<p><xyb></xyb"], ["<p><ab></"], ["<q><b></b"],
    ["<data>0</", "<xdata></x", "<data>[]</"], ["<data>0</data", "<p></p", "<b></b"], ["<data>0</dat", "<pa></p"],
    ["<data>", "a<data>"], ["<p><data>"],
    ["<data>0", "<data>null", "<data>true", "<data>[]", "<data>{}", "<data>\"\"", "<data>{\"a\":1}", "<data>[1,2]"],
    ["<data>1", "<data>2", "<data>10", "<data>-1", "<data>-90"], ["<data>-"], ["<p><data>0"], ["<p><data>1"],
    ["<data>t"], ["<data>tr"], ["<data>f"], ["<data>fa"], ["<data>fal"], ["<data>fals", "<data>tru"], ["<data>n"],
    ["<data>nu"],
    ["<data>nul"], ["<data>0<"],
    ["<data>\"", "<data>\"a", "<data>\"\\\"", "<data>\"&>\\\\"], ["<data>\"\\", "<data>\"a\\"],
    ["<data>["], ["<data>[1", "<data>[2", "<data>[-1"], ["<data>[0", "<data>[null", "<data>[[]", "<data>[{}",
    "<data>[\"a\""],
    ["<data>[1,1", "<data>[\"a\",2"], ["<data>[1,", "<data>[[],"], ["<data>[1,1,"], ["<data>[-"], ["<data>[1,-"],
    ["<data>[t"], ["<data>[tru", "<data>[fals"], ["<data>[1,tru", "<data>[0,fals"], ["<data>[\""], ["<data>[1,\""],
    ["<data>[["], ["<data>[1,["], ["<data>[[1,"], ["<data>[1,[1"], ["<data>[[1", "<data>[[3"],
    ["<data>{"], ["<data>{\""], ["<data>{\"a"], ["<data>{\"b"], ["<data>{\"a\""], ["<data>{\"b\""], ["<data>{\"a\":"],
    ["<data>{\"a\":1"], ["<data>{\"b\":1"], ["<data>{\"a\":0", "<data>{\"a\":[]", "<data>{\"a\":{\"b\":1}"],
    ["<data>{\"b\":0", "<data>{\"a\":1,\"b\":0"],
    ["<data>{\"a\":1,"], ["<data>{\"b\":1,", "<data>{\"a\":1,\"b\":2,"], ["<data>{\"a\":1,\""], ["<data>{\"a\":1,\"a"],
    ["<data>{\"ab\":1,\"a"],
    ["<data>{\"a\":1,\"ab", "<data>{\"aa\":1,\"ab", "<data>{\"ab"], ["<data>{\"ab\":1,\"ab"],
    ["<data>{\"a\":1,\"c", "<data>{\"b\":1,\"c", "<data>{\"c"],
    ["<data>{\"a\":1,\"c\":", "<data>{\"c\":"], ["<data>{\"a\":{"], ["<data>{\"a\":["], ["<data>{\"b\":["],
    ["<data>{\"a\":1,\"" + TWELVE, "<data>{\"" + TWELVE], ["<data>[{\"a\":1"], ["<data>{\"a\":[1"],
]


class ContextTest(unittest.TestCase):
    def test_every_kind_of_place(self):
        for context, texts in CONTEXTS.items():
            for text in texts:
                self.assertEqual(context_of(text), context, text)
                self.assertEqual(context_of(text=text), context, text)

    def test_texts_that_lead_nowhere(self):
        for text in NOWHERE:
            self.assertIsNone(context_of(text), text)
            self.assertIs(same_place(text, text), False, text)
            self.assertIs(same_place(text, ""), False, text)
            self.assertIs(same_place("", text), False, text)
            for more in ("a", "<", ">", "\"", "1"):
                self.assertIsNone(context_of(text + more), text)

    def test_what_leads_nowhere_led_somewhere_before(self):
        for text in NOWHERE:
            if text not in ("<p abcdefghijklm", "<data>\"\"\"", "<data></data>"):
                self.assertTrue([at for at in range(len(text)) if context_of(text[:at]) is not None], text)

    def test_no_text(self):
        for thing in (None, 1, True, b"", ("a",), ["a"], {}, str):
            self.assertIs(raised(InvalidText, context_of, thing).written, thing)
            self.assertIs(raised(InvalidText, same_place, thing, "a").written, thing)
            self.assertIs(raised(InvalidText, same_place, "</", thing).written, thing)
        self.assertEqual(raised(InvalidText, same_place, 1, 2).written, 1)
        self.assertEqual(raised(InvalidText, same_place, other=1, one=2).written, 2)


class SamePlaceTest(unittest.TestCase):
    def test_groups(self):
        for at, group in enumerate(GROUPS):
            for one in group:
                self.assertIsNotNone(context_of(one), one)
                for other in group:
                    self.assertIs(same_place(one, other), True, (one, other))
                for others in GROUPS[:at]:
                    self.assertIs(same_place(one, others[0]), False, (one, others[0]))
                    self.assertIs(same_place(other=one, one=others[0]), False, (one, others[0]))

    def test_lists_by_the_number_of_their_elements(self):
        def rows(many):
            return "<data>[" + ",".join(["1"] * many)
        for many in range(1, 61):
            self.assertIs(same_place(rows(many), rows(many)[:-1] + "2"), True)
            for other in range(1, many):
                self.assertIs(same_place(rows(many), rows(other)), False, (many, other))
        self.assertTrue(same_place(rows(59) + ",", rows(58) + ",0,"))
        self.assertFalse(same_place(rows(59) + ",", rows(58) + ","))
        self.assertTrue(same_place(rows(59) + ",0", rows(59) + ",null"))
        self.assertFalse(same_place(rows(59) + ",0", rows(58) + ",0"))
        self.assertTrue(same_place(rows(59) + ",tru", rows(59) + ",fals"))
        self.assertTrue(same_place(rows(60) + "]", "<data>0"))
        self.assertIsNone(context_of(rows(60) + ","))

    def test_full_lists_and_records_leave_just_their_ends(self):
        full = "<data>[" + "1," * 59 + "0"
        for text, rest in ((full, "]</data>"), ("<data>{\"" + LAST + "\":0", "}</data>"),
                           ("<data>[" + "1," * 59 + "{\"" + LAST + "\":0", "}]</data>")):
            for at in range(len(rest)):
                for sign in ",]}<0\"/ ad":
                    self.assertEqual(context_of(text + rest[:at] + sign) is not None, sign == rest[at])
        self.assertFalse(same_place(full, "<data>{\"" + LAST + "\":0"))
        self.assertTrue(same_place("<data>{\"" + LAST + "\":0}", full + "]"))

    def test_levels_of_literals(self):
        for levels in range(7):
            for other in range(levels):
                self.assertFalse(same_place("<data>" + "[" * levels, "<data>" + "[" * other))
            self.assertEqual(context_of("<data>" + "[" * levels + "["), "none" if levels < 6 else None)
            self.assertEqual(context_of("<data>" + "[" * levels + "{"), "none" if levels < 6 else None)
            self.assertEqual(context_of("<data>" + "{\"a\":" * levels + "{"), "none" if levels < 6 else None)
            self.assertEqual(context_of("<data>" + "{\"a\":" * levels + "\""), "none")
        self.assertTrue(same_place("<data>[[[[[[1]", "<data>[[[[[[]"))

    def test_last_names_of_all_records(self):
        self.assertFalse(same_place("<data>{\"a\":{\"c\":1", "<data>{\"b\":{\"c\":1"))
        self.assertFalse(same_place("<data>[{\"a\":[{\"c\":1", "<data>[{\"b\":[{\"c\":1"))
        self.assertTrue(same_place("<data>{\"a\":1,\"b\":{\"c\":1", "<data>{\"b\":{\"c\":2"))
        self.assertFalse(same_place("<data>[1,{\"c\":1", "<data>[{\"c\":1"))

    def test_names_of_all_open_elements(self):
        for one, other in (("<p><b>", "<q><b>"), ("<p><b>", "<p><i>"), ("<p><b><i>", "<b><i>"), ("<p><p>", "<p>")):
            for more in ("", "x", "&", "<", "<x", "<x ", "<x a", "<x a=\"", "<x href=\"/", "<data>", "<data>1",
                    "<data>[", "<x></x"):
                self.assertFalse(same_place(one + more, other + more), (one, other, more))

    def test_elements_at_the_bound(self):
        self.assertTrue(same_place(DEEP + "<d", DEEP + "a<d"))
        self.assertFalse(same_place(DEEP + "<d", DEEP[3:] + "<d"))
        self.assertTrue(same_place(DEEP + "<", DEEP + "a<"))


class HoleTest(unittest.TestCase):
    def test_escapes_lead_on_as_holes_do(self):
        values = ["", "a", "<p a=\"b\">&amp;</p>", "a/b?c;d~e\n", "&quot;\\", 0, -7, 10 ** 20, "</data>", "\"];}{[,"]
        for context in ("text", "attribute", "part", "query"):
            for text in CONTEXTS[context]:
                for value in values:
                    self.assertTrue(same_place(text, text + escape(context, value)), (text, value))
        for text in CONTEXTS["data"]:
            for value in values + [None, True, (1, {"a": ()}), {}, ("]",) * 60]:
                behind = text + escape("data", value)
                self.assertTrue(same_place(behind + "</data>", text + "null</data>"), (text, value))


def states_of(alphabet):
    """Returns a dict from all places that signs of the alphabet lead to, to the places behind each sign."""
    found, waiting = {}, [places.START]
    while waiting:
        place = waiting.pop()
        if place not in found:
            found[place] = [places.step(place, sign) for sign in alphabet]
            waiting += [behind for behind in found[place] if behind is not None]
    return found


def count_classes(table):
    """Returns how many of the places are different ones, as texts that go on from them to pages tell."""
    group = {place: int(place == places.START) for place in table}
    many = 0
    while len(set(group.values())) > many:
        many = len(set(group.values()))
        numbers = {}
        group = {place: numbers.setdefault((group[place], *[group.get(behind, -1) for behind in table[place]]),
                len(numbers))
                 for place in table}
    return many


def count_live(table):
    """Returns from how many of the places some text goes on to a page."""
    ahead = {}
    for place, nexts in table.items():
        for behind in nexts:
            ahead.setdefault(behind, []).append(place)
    live, waiting = set(), [places.START]
    while waiting:
        place = waiting.pop()
        if place not in live:
            live.add(place)
            waiting += ahead.get(place, [])
    return len(live)


class SmallLanguageTest(unittest.TestCase):
    """With small limits and few letters all places can be looked at: no two of them lead on equally."""

    def check(self, alphabet, **limits):
        with mock.patch.multiple(places, **limits):
            table = states_of(alphabet)
            self.assertGreater(len(table), 1000)
            self.assertEqual(count_classes(table), len(table))
            self.assertEqual(count_live(table), len(table))

    def test_literals_within_each_other(self):
        self.check("<>/dz\"\\n{}[]:,-01 \n", MAX_NESTED=0, MAX_LETTERS=2, MAX_ELEMENTS=2, MAX_LEVELS=2, LITERAL="d",
                   LITERAL_END="</d>", WORDS={"d": "zz", "z": "dz", "n": "n"}, IN_STRING=("\"", "\\", "d", "n"))

    def test_literals(self):
        self.check("<>/data\"\\nrueflsz{}[]:,-019 \n", MAX_NESTED=0, MAX_LETTERS=2, MAX_ELEMENTS=3, MAX_LEVELS=1)

    def test_elements(self):
        self.check("<>/had=\"&; ~?0a2b\n", MAX_NESTED=1, MAX_LETTERS=3, MAX_ELEMENTS=1, MAX_LEVELS=0, LITERAL="da",
                   ADDRESS="ha", LITERAL_END="</da>", IN_TEXT=("ahd;", "da;"), IN_ATTRIBUTE=("ahd;", "da;", "hha;"),
                   WORDS={"h": "d"}, CODES=("00", "20", "22", "2b", "a0", "b0", "b2", "bb"))


if __name__ == "__main__":
    unittest.main()
