"""Actions that are drawn for data, what they make of it, and what a live page must tell of a change."""

from shapekeep.types import Type
from tests.runs import Run


def places_in(value, path=()):
    """Returns all paths in a value, with what is there."""
    found = [(path, value)]
    inner = value.items() if isinstance(value, dict) else enumerate(value) if isinstance(value, tuple) else ()
    for part, one in inner:
        found += places_in(one, path + (part,))
    return found


def type_at(wanted, path):
    """Returns the type of what stands at a path."""
    for part in path:
        wanted = wanted.inner if wanted.kind == "optional" else wanted
        wanted = wanted.inner if isinstance(part, int) else dict(wanted.fields)[part]
    return wanted


def drawn_action(grower, parameters, data):
    """Draws an action on data of a type; it may fail."""
    source = grower.random
    path, value = source.choice(places_in(data))
    wanted = type_at(parameters, path)
    wanted = wanted.inner if wanted.kind == "optional" and isinstance(value, tuple) else wanted
    if isinstance(value, tuple) and source.random() < 0.8:
        word, index = source.choice(["insert", "delete", "move"]), source.randint(0, len(value))
        if word == "insert":
            return (word, path, index, grower.value(wanted.inner))
        return (word, path, index) if word == "delete" else (word, path, index, source.randint(0, len(value)))
    return ("set", path, source.choice([grower.value(wanted), value]))


def put_in_place(value, path, new):
    """Returns a value with another one at a path."""
    if not path:
        return new
    inner = put_in_place(value[path[0]], path[1:], new)
    if isinstance(value, dict):
        return {key: inner if key == path[0] else value[key] for key in value}
    return tuple(inner if at == path[0] else one for at, one in enumerate(value))


def after(data, action):
    """Returns data behind an action that can be done."""
    word, path, *rest = action
    if word == "set":
        return put_in_place(data, path, rest[0])
    rows = dict(places_in(data))[path] if isinstance(data, tuple) else next(one for at, one in places_in(data)
            if at == path)
    rows = list(rows)
    if word == "insert":
        rows.insert(*rest)
    elif word == "delete":
        del rows[rest[0]]
    else:
        rows.insert(rest[1], rows.pop(rest[0]))
    return put_in_place(data, path, tuple(rows))


def trimmed(start, old, new):
    """Returns the least patch that makes the new text out of the old one at an index, or none."""
    if old == new:
        return ()
    ahead = 0
    while ahead < min(len(old), len(new)) and old[ahead] == new[ahead]:
        ahead += 1
    behind = 0
    while behind < min(len(old), len(new)) - ahead and old[len(old) - 1 - behind] == new[len(new) - 1 - behind]:
        behind += 1
    return ((start + ahead, start + len(old) - behind, new[ahead:len(new) - behind]),)


class Change:
    """What a change from one data to other ones comes to, found by two whole runs."""

    def __init__(self, library, name, old, new):
        one, other = Run(library, name, old), Run(library, name, new)
        before = {evaluation.key: evaluation for evaluation in one.evaluations}
        done = [evaluation for evaluation in other.evaluations
                if evaluation.key not in before or before[evaluation.key].reads != evaluation.reads]
        keys = {evaluation.key for evaluation in done}
        self.text = other.text
        self.evaluated = tuple(evaluation.tag for evaluation in done)
        self.patches = ()
        for evaluation in done:
            outer = evaluation.outer
            while outer is not None and outer.key not in keys:
                outer = outer.outer
            if outer is None:
                twin = before[evaluation.key]
                self.patches += trimmed(twin.start, one.text[twin.start:twin.end],
                        other.text[evaluation.start:evaluation.end])


def record(*fields):
    """Returns a record type."""
    return Type.read("{" + ", ".join(fields) + "}")
