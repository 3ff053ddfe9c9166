"""The errors of the program, each with the fields that it is created with."""


class ShapeError(ValueError):
    """Something that was passed has not the form that it must have."""


class InvalidName(ShapeError):
    """What should be a name is none."""

    def __init__(self, called):
        self.called = called


class InvalidText(ShapeError):
    """A text is not the writing of what it should be."""

    def __init__(self, written):
        self.written = written


class InvalidValue(ShapeError):
    """What should be a value, or one of a certain kind, is none."""

    def __init__(self, value):
        self.value = value


class InvalidTree(ShapeError):
    """What should be a tree, or the nodes of a body, is none."""

    def __init__(self, value):
        self.value = value


class InvalidContext(ShapeError):
    """What should be a context is none."""

    def __init__(self, context):
        self.context = context


class InvalidPage(ShapeError):
    """What should be a page is none."""

    def __init__(self, position):
        self.position = position


class InvalidBody(ShapeError):
    """What should be a body is none."""

    def __init__(self, position):
        self.position = position


class InvalidTag(ShapeError):
    """A tag of a body does not fit the variables or the library."""

    def __init__(self, position):
        self.position = position


class Misplaced(ShapeError):
    """A body lets data or branches change the shape of a page."""

    def __init__(self, position, reason):
        self.position = position
        self.reason = reason


class InvalidPlan(ShapeError):
    """What should be a plan is none."""

    def __init__(self, value):
        self.value = value


class InvalidPass(ShapeError):
    """What should be the name of a pass is none."""

    def __init__(self, index):
        self.index = index


class InvalidPatches(ShapeError):
    """What should be the patches of a text are none."""

    def __init__(self, index):
        self.index = index


class InvalidSize(ShapeError):
    """What should be the size of a piece is none."""

    def __init__(self, size):
        self.size = size


class InvalidAction(ShapeError):
    """What should be an action on a page is none."""

    def __init__(self, index):
        self.index = index


class InvalidCommand(ShapeError):
    """What should be a command of a console is none."""

    def __init__(self, command):
        self.command = command


class NotALibrary(ShapeError):
    """What should be a library is none."""

    def __init__(self, value):
        self.value = value


class TypeTrouble(ShapeError):
    """A part of an expression has no type."""

    def __init__(self, part):
        self.part = part


class StateError(LookupError):
    """Something that was asked for is not possible as things are."""


class NameTaken(StateError):
    """There is a template of this name already."""

    def __init__(self, called):
        self.called = called


class MissingTemplate(StateError):
    """There is no template of this name."""

    def __init__(self, called):
        self.called = called


class InUse(StateError):
    """A template is needed by another one."""

    def __init__(self, called):
        self.called = called


class Ring(StateError):
    """A template would use itself by way of others."""

    def __init__(self, called):
        self.called = called


class Unfit(StateError):
    """Data have not the type of the parameters."""

    def __init__(self, path):
        self.path = path


class NoSuchPath(StateError):
    """A path leads nowhere in the data."""

    def __init__(self, path):
        self.path = path


class NotLate(StateError):
    """A parameter is not one that comes late."""

    def __init__(self, called):
        self.called = called


class NotDone(StateError):
    """A stream has gaps."""

    def __init__(self):
        pass


class Busy(StateError):
    """A page is asked for a change while it does others."""

    def __init__(self):
        pass


class NothingToUndo(StateError):
    """A page has no action that is not undone."""

    def __init__(self):
        pass


class SizeError(ArithmeticError):
    """Something would become larger than it may be."""


class TooManyTemplates(SizeError):
    """A library would have too many templates."""

    def __init__(self, found):
        self.found = found


class TooManyLevels(SizeError):
    """Too many elements would be nested in each other."""

    def __init__(self, found):
        self.found = found


class TooManyNodes(SizeError):
    """A plan would have too many nodes."""

    def __init__(self, found):
        self.found = found


class TooManyElements(SizeError):
    """A list would have too many elements."""

    def __init__(self, found):
        self.found = found


class TooManyEntries(SizeError):
    """A history would have too many actions."""

    def __init__(self, found):
        self.found = found


class TooDeep(SizeError):
    """Too many nodes of a plan would stand within one another."""

    def __init__(self, found):
        self.found = found
