"""Pages that come in pieces: of one size each, or with parts that wait for parameters that come late."""

from shapekeep.errors import InvalidSize, NotDone, NotLate, Unfit
from shapekeep.fitting import fields_of
from shapekeep.gaps import Filler, Gap, parts_of
from shapekeep.library import template_in
from shapekeep.rendering import check_fit, render
from shapekeep.types import Type
from shapekeep.walking import Scene


def chunks(library, name, data, size):
    """Yields the text of a template in pieces of so many characters."""
    text = render(library, name, data)
    if not isinstance(size, int) or isinstance(size, bool) or size < 1:
        raise InvalidSize(size)
    for start in range(0, len(text), size):
        yield text[start:start + size]


class Stream:
    """A page of which some parameters come late."""

    def __init__(self, library, name, data, *late):
        template = template_in(library, name)
        fields = dict(fields_of(template.parameters))
        _check_late(late, fields)
        others = tuple([(called, part) for called, part in fields.items() if called not in late])
        check_fit(Type("record", fields=others), data)
        self._late = {called: fields[called] for called in late}
        self._filler = Filler(library.snapshot())
        self._content = self._filler.begin(Scene(template, data))
        self.waiting = tuple(sorted(late))
        self.parts = parts_of(self._content)

    @property
    def text(self):
        """The text of the page, if there are no gaps."""
        if self._count() > 0:
            raise NotDone()
        return "".join(self.parts)

    def fill(self, name, value):
        """Gives a late parameter its value, and returns pairs of a gap that is closed by it and of its parts."""
        if not isinstance(name, str) or name not in self.waiting:
            raise NotLate(name)
        trouble = self._late[name].trouble(value)
        if trouble is not None:
            raise Unfit((name,) + trouble)
        self.waiting = tuple([called for called in self.waiting if called != name])
        self._filler.learn(name, value)
        content = []
        closed = []
        for part in self._content:
            # New gaps get their numbers in the order of the page, whatever the numbers of the closed ones are.
            if isinstance(part, Gap) and part.is_closed(self.waiting):
                found = self._filler.fill(part)
                closed.append((part.number, parts_of(found)))
                content.extend(found)
            else:
                content.append(part)
        self._content = content
        self.parts = parts_of(content)
        return tuple(sorted(closed))

    def _count(self):
        """Returns the number of gaps."""
        return len([part for part in self.parts if not isinstance(part, str)])

    def __repr__(self):
        return f"Stream({self._count()} gaps)"


def _check_late(late, fields):
    """Looks whether all that shall be late are parameters, each there once."""
    for called in late:
        if not isinstance(called, str) or called not in fields:
            raise NotLate(called)
        if len([other for other in late if isinstance(other, str) and other == called]) > 1:
            raise NotLate(called)
