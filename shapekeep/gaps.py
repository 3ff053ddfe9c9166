"""Gaps: what waits in a page for parameters that come late."""

from shapekeep.walking import Walk


class Gap:
    """An evaluation that waits for late parameters, with the scene in which its tag stands."""

    def __init__(self, number, piece, scene, late):
        self.number = number
        self.piece = piece
        self.scene = scene
        self.late = late

    def is_closed(self, waiting):
        """Tells whether none of the parameters that the gap waits for is among those that have not come."""
        return not [name for name in self.late if name in waiting]


class Filler(Walk):
    """Goes through pieces, and leaves gaps where a parameter has not come."""

    def __init__(self, templates):
        super().__init__(templates)
        # The late parameters that have come.
        self.came = {}
        self.numbered = 0

    def learn(self, name, value):
        """Takes the value of a late parameter."""
        self.came = {**self.came, name: value}

    def begin(self, scene):
        """Returns a list of the texts and gaps of a template."""
        self.texts = []
        self.enter(scene)
        return self.texts

    def fill(self, gap):
        """Returns a list of the texts and gaps that a gap becomes."""
        self.texts = []
        self.visit(gap.piece, gap.scene)
        return self.texts

    def visit(self, piece, scene):
        """Goes through a piece, or leaves a gap for it."""
        # A late parameter that has not come is no variable, unless a loop or a let has hidden it.
        present = scene.above(self.came)
        late = [names[0] for names in piece.reads if names[0] not in present.variables]
        if late:
            self.texts.append(Gap(self.numbered, piece, present, late))
            self.numbered += 1
        else:
            super().visit(piece, present)


def parts_of(content):
    """Returns the parts that texts and gaps come to: texts that are not empty, none beside another one, and numbers."""
    parts = []
    texts = []
    for part in content:
        if isinstance(part, Gap):
            parts.extend(_joined(texts))
            parts.append(part.number)
            texts = []
        else:
            texts.append(part)
    return tuple(parts + _joined(texts))


def _joined(texts):
    """Returns a list of the text that the texts make, or an empty one if they make none."""
    text = "".join(texts)
    return [text] if text else []
