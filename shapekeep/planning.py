"""Plans made of templates."""

from shapekeep.bodies import pairs_of


class Planner:
    """Makes plans, for the templates by their names and the plans of those that are used."""

    def __init__(self, templates, plans):
        self.templates = templates
        self.plans = plans

    def plan(self, template, pieces, filling):
        """Returns the plan of pieces of a template, with the filling in the place of slots."""
        nodes = []
        for piece in pieces:
            if piece.kind == "slot":
                nodes.extend(filling)
            else:
                nodes.append(self.node(template, piece, filling))
        return tuple(nodes)

    def node(self, template, piece, filling):
        """Returns the node of a piece."""
        if piece.kind == "literal":
            return ("write", piece.written)
        if piece.kind == "hole":
            return ("show", template.context_at[piece.at], str(piece.expression))
        if piece.kind == "use":
            return ("scope", pairs_of(piece), self.plans[piece.called])
        parts = tuple([self.plan(template, part, filling) for part in piece.parts])
        if piece.kind == "wrap":
            inner = self.templates[piece.called]
            return ("scope", pairs_of(piece), self.plan(inner, inner.content, (("outer", parts[0]),)))
        if piece.kind == "if":
            return ("if", str(piece.expression)) + parts
        return (piece.kind, piece.called, str(piece.expression)) + parts
