"""A second reader of pages, written otherwise than the program's: it goes down through nodes and values by itself."""

SIGNS = "\n" + "".join(chr(code) for code in range(32, 127) if code != 37)
LETTERS = "abcdefghijklmnopqrstuvwxyz"
ITSELF = LETTERS + LETTERS.upper() + "0123456789-_."
CODED = {f"{ord(sign):02x}": sign for sign in SIGNS if sign not in ITSELF}


class Wrong(Exception):
    """A character with which no page goes on."""


class Cut(Exception):
    """The text ends ahead of the end of a page."""


class Descent:
    """A text and the place up to which it has been read."""

    def __init__(self, text):
        self.text = text
        self.at = 0

    def sign(self, allowed):
        if self.at == len(self.text):
            raise Cut
        if self.text[self.at] not in allowed:
            raise Wrong
        self.at += 1
        return self.text[self.at - 1]

    def word(self, word):
        for sign in word:
            self.sign(sign)

    def one_of(self, words):
        """Reads one of the words, of which none is the beginning of another one."""
        read = ""
        while read not in words:
            read += self.sign("".join(word[len(read)] for word in words if word.startswith(read)))
        return read

    def nodes(self, closing, levels):
        found = []
        while True:
            if self.at == len(self.text) and closing is None:
                return tuple(found)
            sign = self.sign(SIGNS)
            if sign != "<":
                sign = {"amp;": "&", "lt;": "<"}[self.one_of(["amp;", "lt;"])] if sign == "&" else sign
                if found and found[-1][0] == "text":
                    found[-1] = ("text", found[-1][1] + sign)
                else:
                    found.append(("text", sign))
                continue
            starts = LETTERS if levels else "d"
            if self.sign(starts + ("/" if closing else "")) == "/":
                self.word(closing + ">")
                return tuple(found)
            self.at -= 1
            found.append(self.element(levels))

    def element(self, levels):
        if not levels:
            self.word("data>")
            return self.data()
        name = self.name(LETTERS, lambda name: ">" if name == "data" else "> ")
        if name == "data":
            self.sign(">")
            return self.data()
        attributes = []
        while self.sign("> ") == " ":
            called = self.name(LETTERS, lambda _: "=")
            self.word("=\"")
            attributes.append((called, self.address() if called == "href" else self.attribute()))
        return ("element", name, tuple(attributes), self.nodes(name, levels - 1))

    def name(self, letters, enders):
        """Reads a name up to one of the signs that may end it."""
        name = self.sign(letters)
        while True:
            sign = self.sign((letters if len(name) < 12 else "") + enders(name))
            if sign not in letters:
                self.at -= 1
                return name
            name += sign

    def attribute(self):
        text = ""
        while (sign := self.sign(SIGNS.replace("<", ""))) != "\"":
            if sign == "&":
                sign = {"amp;": "&", "lt;": "<", "quot;": "\""}[self.one_of(["amp;", "lt;", "quot;"])]
            text += sign
        return text

    def code(self, enders):
        """Reads a code and the sign that ends it."""
        text = ""
        while (sign := self.sign(ITSELF + "~" + enders)) not in enders:
            text += CODED[self.one_of(list(CODED))] if sign == "~" else sign
        return text, sign

    def address(self):
        self.sign("/")
        parts, pairs = [], []
        sign = "/"
        while sign == "/":
            text, sign = self.code("/?\"")
            parts.append(text)
        while sign != "\"":
            name = self.name(LETTERS, lambda _: "=")
            self.sign("=")
            text, sign = self.code(";\"")
            pairs.append((name, text))
        return tuple(parts), tuple(pairs)

    def data(self):
        value = self.value(6, "</data>")
        return ("data", value)

    def value(self, levels, behind):
        """Reads a value and what stands behind it."""
        sign = self.sign("\"-0123456789tfn" + ("[{" if levels else ""))
        if sign in "-0123456789":
            return self.number(sign, behind)
        if sign == "\"":
            found = self.string()
        elif sign == "[":
            found = self.list(levels - 1)
        elif sign == "{":
            found = self.record(levels - 1)
        else:
            self.at -= 1
            found = {"true": True, "false": False, "null": None}[self.one_of(["true", "false", "null"])]
        self.word(behind)
        return found

    def number(self, sign, behind):
        digits = self.sign("123456789") if sign == "-" else sign
        if digits != "0":
            while (more := self.sign("0123456789" + behind[0])) != behind[0]:
                digits += more
            self.at -= 1
        self.word(behind)
        return -int(digits) if sign == "-" else int(digits)

    def string(self):
        text = ""
        while (sign := self.sign(SIGNS.replace("<", "").replace("\n", ""))) != "\"":
            text += {"\"": "\"", "\\": "\\", "n": "\n", "l": "<"}[self.sign("\"\\nl")] if sign == "\\" else sign
        return text

    def list(self, levels):
        parts = []
        if self.sign("]\"-0123456789tfn" + ("[{" if levels else "")) == "]":
            return ()
        self.at -= 1
        while True:
            parts.append(self.inner(levels, "," * (len(parts) < 59) + "]"))
            if self.sign(",]") == "]":
                return tuple(parts)

    def inner(self, levels, enders):
        """Reads a value ahead of one of these signs."""
        for ender in enders:
            start = self.at
            try:
                found = self.value(levels, ender)
                self.at -= 1
                return found
            except Wrong:
                if ender == enders[-1] or self.text[self.at] != enders[-1]:
                    raise
                self.at = start

    def record(self, levels):
        found, last = {}, ""
        if self.sign("\"}") == "}":
            return found
        while True:
            last = self.key(last)
            found[last] = self.inner(levels, "," * (last != "z" * 12) + "}")
            if self.sign(",}") == "}":
                return found
            self.word("\"")

    def key(self, last):
        """Reads a name behind the last one: of some name with these letters, the greatest one is greater."""
        name = ""
        while True:
            letters = [letter for letter in LETTERS
                       if len(name) < 12 and (name + letter).ljust(12, "z") > last]
            sign = self.sign("".join(letters) + ("\"" if name > last else ""))
            if sign == "\"":
                self.sign(":")
                return name
            name += sign


def read_page(text):
    """Returns the tree of a page and None, or None and the index at which it is none."""
    descent = Descent(text)
    try:
        return descent.nodes(None, 30), None
    except Wrong:
        return None, descent.at
    except Cut:
        return None, len(text)
