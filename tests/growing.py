"""Trees and values that are grown from a seeded random source, for tests with many of them."""

from tests.descent import LETTERS, SIGNS


class Grower:
    """Grows values, trees and all that is in them."""

    def __init__(self, random):
        self.random = random

    def text(self, most=6):
        signs = self.random.choice([SIGNS, "&<\"\\\n", "abc", "ab <&;~/?=lt"])
        return "".join(self.random.choice(signs) for _ in range(self.random.randint(0, most)))

    def name(self):
        known = ["data", "href", "a", "b", "dat", "hre", "hrefs", "datas", "z" * 12, "z" * 11, "abcdefghijkl"]
        if self.random.random() < 0.4:
            return self.random.choice(known)
        return "".join(self.random.choice(LETTERS) for _ in range(self.random.choice([1, 1, 2, 3, 11, 12])))

    def value(self, levels=6):
        kind = self.random.randint(0, 8 if levels else 5)
        if kind < 2:
            return self.text()
        if kind < 4:
            return self.random.choice([0, 1, -1, 10, -205, 123456789012345678901234567890,
                    self.random.randint(-99, 99)])
        if kind < 6:
            return self.random.choice([True, False, None])
        size = self.random.choice([0, 1, 1, 2, 3])
        if kind < 8:
            size = self.random.choice([size, size, size, 59, 60]) if levels < 3 else size
            return tuple(self.value(levels - 1) for _ in range(size))
        return {self.name(): self.value(levels - 1) for _ in range(size)}

    def attribute(self):
        name = self.name()
        if name == "href":
            parts = tuple(self.text() for _ in range(self.random.randint(1, 3)))
            return name, (parts, tuple((self.name(), self.text()) for _ in range(self.random.choice([0, 0, 1, 2]))))
        return name, self.text()

    def tree(self, levels=4):
        nodes = []
        for _ in range(self.random.choice([0, 1, 1, 2, 3])):
            kind = self.random.randint(0, 3)
            if kind == 0 and not (nodes and nodes[-1][0] == "text"):
                nodes.append(("text", self.text() or "x"))
            if kind == 1:
                nodes.append(("data", self.value()))
            if kind > 1 and levels:
                name = self.name()
                attributes = tuple(self.attribute() for _ in range(self.random.choice([0, 0, 1, 2])))
                nodes.append(("element", "p" if name == "data" else name, attributes, self.tree(levels - 1)))
        return tuple(nodes)

    def spoilt(self, text):
        return spoilt(self.random, text, list(self.random.choice([SIGNS, "<>&/\"=;?~[]{}:,-0aztfn", text or " "])))


def spoilt(random, text, words):
    """Changes, leaves out, puts in or exchanges a character, or puts in one of the words, or cuts the text off."""
    at = random.randint(0, len(text))
    word = random.choice(words)
    return random.choice([
        text[:at], text[:at] + text[at + 1:], text[:at] + word + text[at:], text[:at] + word + text[at + 1:],
        text[:at] + text[at + 1:at + 2] + text[at:at + 1] + text[at + 2:]])
