"""Bodies followed through the places to which they lead."""

from shapekeep.errors import Misplaced
from shapekeep.places import START, behind_literal, context_at, open_names, step


class Course:
    """What comes to light when a body is followed from the place of the empty text on."""

    def __init__(self, kinds):
        # The kinds of the types of the holes, by their indexes.
        self.kinds = kinds
        self.contexts = []
        # How many elements are open at a use, a wrap or a slot, and at most in a literal, by their indexes.
        self.depths = {}

    def whole(self, pieces, end):
        """Follows a body with so many characters, which must lead back."""
        if self.behind(pieces, START) != START:
            raise Misplaced(end, "end")

    def behind(self, pieces, place):
        """Returns the place to which pieces lead."""
        for piece in pieces:
            if piece.kind == "literal":
                place = self.behind_signs(piece, place)
            elif piece.kind == "hole":
                place = self.behind_hole(piece, place)
            elif piece.kind in ("use", "wrap", "slot"):
                self.pass_call(piece, place)
            else:
                place = self.behind_parts(piece, place)
        return place

    def behind_signs(self, piece, place):
        """Returns the place to which literal characters lead."""
        deepest = 0
        for sign, spot in zip(piece.written, piece.spots):
            place = step(place, sign)
            if place is None:
                raise Misplaced(spot, "markup")
            deepest = max(deepest, len(open_names(place)))
        self.depths[piece.at] = deepest
        return place

    def behind_hole(self, piece, place):
        """Returns the place to which a hole leads, and notes its context."""
        context = context_at(place)
        if context == "none":
            raise Misplaced(piece.at, "hole")
        if context != "data" and self.kinds[piece.at] not in ("text", "number"):
            raise Misplaced(piece.at, "kind")
        self.contexts.append((piece.at, context))
        return behind_literal(place) if context == "data" else place

    def behind_parts(self, piece, place):
        """Returns the place to which an if, a for or a let leads."""
        ends = [self.behind(part, place) for part in piece.parts]
        if piece.kind == "if" and ends[0] != ends[1]:
            raise Misplaced(piece.end, "branches")
        if piece.kind == "for" and ends[0] != place:
            raise Misplaced(piece.end, "loop")
        return ends[0]

    def pass_call(self, piece, place):
        """Looks at the place of a use, a wrap or a slot, and follows the part by itself, if there is one."""
        if context_at(place) != "text":
            raise Misplaced(piece.at, "use")
        self.depths[piece.at] = len(open_names(place))
        for part in piece.parts:
            if self.behind(part, START) != START:
                raise Misplaced(piece.end, "loop")
