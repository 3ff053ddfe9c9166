"""How large templates become where all that they use is written in its place."""


class Size:
    """The size of what pieces write: numbers of elements and of plan nodes, with slots still to be filled."""

    def __init__(self):
        # How many elements are nested in each other, how many nodes of the plan are, and how many nodes there are.
        self.levels = 0
        self.depth = 0
        self.nodes = 0
        # How many slots there are, and how many elements and nodes are around one of them.
        self.slots = 0
        self.slot_levels = 0
        self.slot_depth = 0

    def grow(self, levels, depth, nodes):
        """Takes so many nodes; they and the elements in them are nested so deeply."""
        self.levels = max(self.levels, levels)
        self.depth = max(self.depth, depth)
        self.nodes += nodes

    def leave(self, slots, levels, depth):
        """Takes slots with so much around them."""
        if slots > 0:
            self.slots += slots
            self.slot_levels = max(self.slot_levels, levels)
            self.slot_depth = max(self.slot_depth, depth)

    def include(self, inner, levels, depth, times):
        """Takes what has a size of its own, within so many elements and nodes, in so many places."""
        self.grow(levels + inner.levels, depth + inner.depth, times * inner.nodes)
        self.leave(times * inner.slots, levels + inner.slot_levels, depth + inner.slot_depth)


def size_of(pieces, depths, known):
    """Returns the size of pieces with the depths that a Course finds, for known sizes of all templates they use."""
    size = Size()
    for piece in pieces:
        levels = depths.get(piece.at, 0)
        if piece.kind == "slot":
            size.leave(1, levels, 0)
            continue
        size.grow(levels, 1, 1)
        inner = [size_of(part, depths, known) for part in piece.parts]
        if piece.kind in ("use", "wrap"):
            _call(size, levels, known[piece.called], inner)
        else:
            for part in inner:
                size.include(part, 0, 1, 1)
    return size


def _call(size, levels, template, parts):
    """Takes a template within a scope, and the part of a wrap within an outer in the place of each slot."""
    size.grow(levels + template.levels, 1 + template.depth, template.nodes)
    for part in parts:
        size.grow(0, 0, template.slots)
        size.include(part, levels + template.slot_levels, 2 + template.slot_depth, template.slots)
