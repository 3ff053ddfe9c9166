"""Live pages: texts of templates that are patched when their data change."""

from shapekeep.actions import acted, check_actions, is_action
from shapekeep.errors import Busy, InvalidAction, InvalidPatches, InvalidText, NothingToUndo, TooManyEntries
from shapekeep.limits import MAX_ENTRIES
from shapekeep.markup import read_page
from shapekeep.rendering import check_fit, first_scene
from shapekeep.running import Run, least_patches
from shapekeep.types import agree
from shapekeep.walking import Scene


class Moment:
    """All that a page is between two actions."""

    def __init__(self, given, run, past, fresh):
        # The data, the run of the template with them, and the actions so far with the data ahead of each.
        self.given = given
        self.last = run
        self.past = past
        self.fresh = fresh
        self.nodes = read_page(run.page)


class Page:
    """A template with data that can be changed."""

    def __init__(self, library, name, data):
        scene = first_scene(library, name, data)
        run = Run(library.snapshot(), scene, {})
        self.busy = False
        self.attempts = 0
        self._template = scene.template
        self._now = Moment(data, run, (), tuple(run.done))

    @property
    def text(self):
        """The text of the page."""
        return self._now.last.page

    @property
    def data(self):
        """The present data."""
        return self._now.given

    @property
    def tree(self):
        """The tree of the page."""
        return self._now.nodes

    @property
    def evaluated(self):
        """All evaluations of the last change, each as a template and the index of a tag."""
        return self._now.fresh

    def do(self, action):
        """Does an action and returns the patches that make the new page out of the old one."""
        self._check_free()
        if not is_action(action):
            raise InvalidAction(None)
        return self._act(action)

    def change(self, path, value):
        """Gives the value at a path another one in its place."""
        return self.do(("set", path, value))

    def put_in(self, path, index, value):
        """Puts an element into the list at a path."""
        return self.do(("insert", path, index, value))

    def take_out(self, path, index):
        """Takes an element out of the list at a path."""
        return self.do(("delete", path, index))

    def move(self, path, index, place):
        """Moves an element within the list at a path."""
        return self.do(("move", path, index, place))

    def do_all(self, actions, *, observer=None):
        """Does all actions or none, and returns the one patch that makes the new page out of the old one, if any."""
        self._check_free()
        check_actions(actions)
        self.attempts += 1
        before = self._now
        failed = before
        self.busy = True
        try:
            for index, action in enumerate(actions):
                self._act(action)
                if observer is not None:
                    observer(self, index)
            failed = None
        finally:
            self.busy = False
            if failed is not None:
                self._now = failed
        if not actions:
            self._now = Moment(before.given, before.last, before.past, ())
        return least_patches(0, before.last.page, self.text)

    def undo(self):
        """Undoes the last action that is not undone, and returns the patches."""
        self._check_free()
        if not self._now.past:
            raise NothingToUndo()
        _, data = self._now.past[-1]
        return self._go_to(data, self._now.past[:-1])

    def history(self):
        """Returns the actions that were done and not undone."""
        return tuple([action for action, _ in self._now.past])

    def _check_free(self):
        if self.busy:
            raise Busy()

    def _act(self, action):
        """Does an action that has the form of one."""
        data = acted(self.data, action)
        check_fit(self._template.parameters, data)
        if len(self._now.past) >= MAX_ENTRIES:
            raise TooManyEntries(len(self._now.past) + 1)
        return self._go_to(data, self._now.past + ((action, self.data),))

    def _go_to(self, data, past):
        """Goes on with other data, and returns the patches."""
        old = self._now.last
        run = Run(old.templates, Scene(self._template, data), old.entries)
        self._now = Moment(data, run, past, tuple(run.done))
        return run.patches(old.page)

    def __eq__(self, other):
        return (isinstance(other, Page) and self._template.name == other._template.name
                and agree(self._now.given, other._now.given) and self._now.last.page == other._now.last.page)

    def __str__(self):
        return str(self._now.last.page)

    def __repr__(self):
        return f"Page('{self._template.name}', {len(self._now.last.page)} characters)"


def patched(text, patches):
    """Returns the text after patches."""
    if not isinstance(text, str):
        raise InvalidText(text)
    if not isinstance(patches, tuple):
        raise InvalidPatches(None)
    parts = []
    done = 0
    for index, patch in enumerate(patches):
        if not _is_patch(patch, done, len(text)):
            raise InvalidPatches(index)
        start, end, written = patch
        parts.extend([text[done:start], written])
        done = end
    return "".join(parts) + text[done:]


def _is_patch(thing, done, size):
    """Tells whether any value is a patch that begins at an index or behind it, of a text with so many characters."""
    if not isinstance(thing, tuple) or len(thing) != 3:
        return False
    start, end, written = thing
    for place in (start, end):
        if not isinstance(place, int) or isinstance(place, bool):
            return False
    if not isinstance(written, str) or not done <= start <= end <= size:
        return False
    return start < end or written != ""
