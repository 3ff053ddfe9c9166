"""Whether the tags of a body fit the variables that they see and the templates that they use."""

from shapekeep.errors import InvalidTag, TypeTrouble


def fit_tags(pieces, parameters, templates):
    """Returns two dicts: from the index of each hole to the kind of its type, and of each for to the key of its list.

    All tags must fit.
    """
    kinds = {}
    keys = {}
    _fit(pieces, dict(fields_of(parameters)), templates, kinds, keys)
    return kinds, keys


def fields_of(parameters):
    """Returns the names and the Types of the parameters of a template; there may be none."""
    return () if parameters is None else parameters.fields


def _fit(pieces, scope, templates, kinds, keys):
    """Goes through pieces for variables of the Types in the scope, and notes kinds of holes and keys of lists."""
    for piece in pieces:
        inner = scope
        if piece.kind in ("use", "wrap"):
            _fit_call(piece, scope, templates)
        elif piece.expression is not None:
            found = _type_in(piece, piece.expression, scope)
            if not _is_wanted(piece.kind, found.kind):
                raise InvalidTag(piece.at)
            if piece.kind == "hole":
                kinds[piece.at] = found.kind
            if piece.kind == "for":
                keys[piece.at] = found.key
            if piece.called is not None:
                inner = {**scope, piece.called: found.inner if piece.kind == "for" else found}
        for part in piece.parts:
            _fit(part, inner, templates, kinds, keys)


def _type_in(piece, expression, scope):
    """Returns the Type of an expression in a tag."""
    try:
        return expression.typed(**scope)
    except TypeTrouble:
        raise InvalidTag(piece.at) from None


def _is_wanted(kind, found):
    """Tells whether a tag of a kind can have an expression of a type of this kind."""
    if kind == "if":
        return found == "flag"
    return kind != "for" or found in ("list", "keyed")


def _fit_call(piece, scope, templates):
    """Looks at what a use or a wrap passes to its template."""
    template = templates.get(piece.called)
    if template is None or piece.kind == "wrap" and template.slots == 0:
        raise InvalidTag(piece.at)
    fields = fields_of(template.parameters)
    if [name for name, _ in piece.pairs] != [name for name, _ in fields]:
        raise InvalidTag(piece.at)
    for (_, expression), (_, wanted) in zip(piece.pairs, fields):
        found = _type_in(piece, expression, scope)
        if found != wanted and (wanted.kind != "optional" or found != wanted.inner):
            raise InvalidTag(piece.at)
