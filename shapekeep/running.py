"""Runs of the templates of a live page, in which what has been worked out before is taken over."""

from shapekeep.types import agree
from shapekeep.walking import marks_of, ways_in, worth_of


class Entry:
    """What a tag has done in a run: the values that it has read, what it has worked out, and where it has written."""

    def __init__(self, seen, worth, start):
        self.seen = seen
        self.worth = worth
        self.start = start
        self.end = start
        # From the elements of its loop, or None if it has no loop, to the entries of the tags in it by their indexes.
        self.inner = {}


class Run:
    """A run of a template, beside the entries of the run before, if there was one."""

    def __init__(self, templates, scene, before):
        self.templates = templates
        self.texts = []
        self.length = 0
        # The evaluations that are done, and the outermost ones of them, with the entries of the run before.
        self.done = []
        self.outermost = []
        self.within = False
        self.entries = self.go(scene.template.content, scene, before)
        self.page = "".join(self.texts)

    def go(self, pieces, scene, before):
        """Goes through pieces, and returns their entries by their indexes."""
        entries = {}
        for piece in pieces:
            if piece.kind == "literal":
                self.put(piece.written)
            else:
                entries[piece.at] = self.visit(piece, scene, before.get(piece.at))
        return entries

    def visit(self, piece, scene, before):
        """Goes through a tag and all that is in it, and returns its entry."""
        found = tuple([_value_of(names, scene.variables) for names in piece.reads])
        seen = found
        if piece.kind == "for":
            seen = marks_of(found[0], scene.template.loop_keys[piece.at])
        known = before is not None and agree(before.seen, seen)
        entry = Entry(seen, _worth_again(piece, before, found) if known else worth_of(piece, scene), self.length)
        is_done = not known and len(piece.expressions) > 0
        is_outermost = is_done and not self.within
        if is_done:
            self.done.append((scene.template.name, piece.at))
        if is_outermost:
            self.within = True
            self.outermost.append((before, entry))
        self.write(piece, scene, before, entry)
        if is_outermost:
            self.within = False
        return entry

    def write(self, piece, scene, before, entry):
        """Writes what a tag writes, with its parts."""
        if piece.kind == "hole":
            self.put(entry.worth)
        known = {} if before is None else before.inner
        for mark, pieces, inner in ways_in(piece, scene, entry.worth, self.templates):
            entry.inner[mark] = self.go(pieces, inner, known.get(mark, {}))
        entry.end = self.length

    def put(self, text):
        """Writes a text."""
        self.texts.append(text)
        self.length += len(text)

    def patches(self, old):
        """Returns the patches that make this page out of the old one, that of the run before."""
        return tuple([patch for before, entry in self.outermost
                      for patch in least_patches(before.start, old[before.start:before.end],
                                                 self.page[entry.start:entry.end])])


def least_patches(start, old, new):
    """Returns the least patch that makes the new text out of the old one, which stands at an index, or no patch."""
    if old == new:
        return ()
    ahead = _common_length(old, new)
    old, new = old[ahead:], new[ahead:]
    behind = _common_length(old[::-1], new[::-1])
    return ((start + ahead, start + ahead + len(old) - behind, new[:len(new) - behind]),)


def _common_length(one, other):
    """Returns the length of the longest common beginning of two texts."""
    length = 0
    for sign, twin in zip(one, other):
        if sign != twin:
            break
        length += 1
    return length


def _worth_again(piece, before, found):
    """Returns what a tag of which no read has changed worked out before; the list of a for is that which was found."""
    # Its keys are the same, but they do not tell what else is in its elements.
    return found[0] if piece.kind == "for" else before.worth


def _value_of(names, variables):
    """Returns the value that the names of a read lead to."""
    found = variables
    for name in names:
        found = found[name]
    return found
