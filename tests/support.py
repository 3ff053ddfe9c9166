"""What several tests need."""


def in_lists(levels, thing):
    """Puts a thing into so many tuples, one within the other."""
    for _ in range(levels):
        thing = (thing,)
    return thing


def in_records(levels, thing):
    """Puts a thing into so many dicts, one within the other."""
    for _ in range(levels):
        thing = {"a": thing}
    return thing


def unchanged(test, thing, action):
    """Calls the action with the thing, fails the test if that modified it, and returns the answer."""
    before = repr(thing)
    answer = action(thing)
    test.assertEqual(repr(thing), before)
    return answer


def raised(error, action, *given, **named):
    """Returns the error of just this class that the call raises."""
    try:
        action(*given, **named)
    except error as found:
        if type(found) is not error:
            raise AssertionError(f"{found!r} is not just {error.__name__}") from found
        return found
    raise AssertionError(f"{error.__name__} was not raised")
