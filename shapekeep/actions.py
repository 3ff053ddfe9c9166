"""Actions on the data of live pages."""

from shapekeep.errors import InvalidAction, NoSuchPath, TooManyElements
from shapekeep.limits import MAX_ELEMENTS

# How many elements the actions of each kind have.
SIZES = {"set": 3, "insert": 4, "delete": 3, "move": 4}


def is_action(thing):
    """Tells whether any value has the form of an action."""
    if not isinstance(thing, tuple) or not thing or not isinstance(thing[0], str):
        return False
    return thing[0] in SIZES and len(thing) == SIZES[thing[0]]


def check_actions(actions):
    """Looks whether any value is a tuple of actions."""
    if not isinstance(actions, tuple):
        raise InvalidAction(None)
    for index, action in enumerate(actions):
        if not is_action(action):
            raise InvalidAction(index)


def acted(data, action):
    """Returns the data behind an action."""
    word, path = action[:2]
    found = _value_at(data, path)
    if word == "set":
        if not path:
            raise NoSuchPath(path)
        return _with_value(data, path, action[2])
    if not isinstance(found, tuple):
        raise NoSuchPath(path)
    return _with_value(data, path, _acted_on_list(found, action))


def _acted_on_list(rows, action):
    """Returns a list behind an action on it."""
    word, path, index = action[:3]
    if not _is_index(index, len(rows) + 1 if word == "insert" else len(rows)):
        raise NoSuchPath(path + (index,))
    if word == "insert":
        if len(rows) >= MAX_ELEMENTS:
            raise TooManyElements(len(rows) + 1)
        return rows[:index] + (action[3],) + rows[index:]
    left = rows[:index] + rows[index + 1:]
    if word == "delete":
        return left
    place = action[3]
    if not _is_index(place, len(rows)):
        raise NoSuchPath(path + (place,))
    return left[:place] + (rows[index],) + left[place:]


def _value_at(data, path):
    """Returns the value at a path; the path may be any value."""
    if not isinstance(path, tuple):
        raise NoSuchPath(path)
    found = data
    for part in path:
        if not _leads_on(found, part):
            raise NoSuchPath(path)
        found = found[part]
    return found


def _leads_on(value, part):
    """Tells whether a record has a field, or a list an element, of this name or index."""
    if isinstance(value, dict):
        return isinstance(part, str) and part in value
    return isinstance(value, tuple) and _is_index(part, len(value))


def _is_index(thing, size):
    """Tells whether any value is the index of one of so many elements."""
    return isinstance(thing, int) and not isinstance(thing, bool) and 0 <= thing < size


def _with_value(data, path, value):
    """Returns the data in which the value at a path is another one."""
    if not path:
        return value
    first = path[0]
    inner = _with_value(data[first], path[1:], value)
    if isinstance(data, dict):
        return {**data, first: inner}
    return data[:first] + (inner,) + data[first + 1:]
