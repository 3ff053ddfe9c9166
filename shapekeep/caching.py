"""Caches: rendering with a memory of what has been run."""

from shapekeep.errors import NotALibrary
from shapekeep.library import Library
from shapekeep.literals import write_literal
from shapekeep.rendering import first_scene
from shapekeep.walking import Walk


class Cache:
    """Renders the templates of a library, and runs none of them twice for the same values."""

    def __init__(self, library):
        if not isinstance(library, Library):
            raise NotALibrary(library)
        self.runs = 0
        self._library = library
        self._memory = Memory()

    def render(self, name, data):
        """Returns the text of a template with data."""
        scene = first_scene(self._library, name, data)
        runner = Runner(self._library.snapshot(), self._memory)
        runner.enter(scene)
        self.runs += runner.runs
        return runner.text_from(0)

    def forget(self):
        """Empties the memory."""
        self._memory = Memory()

    def __repr__(self):
        return f"Cache({self.runs} runs)"


class Memory:
    """What has been run, with its texts."""

    def __init__(self):
        # The numbers of the templates; the same one only for the same bodies of it and of all that it uses.
        self.numbers = {}
        # The texts, by the number of the template and the literal of the values.
        self.written = {}

    def keep(self, known, text):
        """Takes what has been run."""
        self.written[known] = text

    def number_of(self, template, used):
        """Returns the number of a template that uses and wraps those with these numbers."""
        known = (template.name, str(template.parameters), template.body, used)
        if known not in self.numbers:
            self.numbers[known] = len(self.numbers)
        return self.numbers[known]


class Runner(Walk):
    """Goes through templates, except for those that the memory knows."""

    def __init__(self, templates, memory):
        super().__init__(templates)
        self.memory = memory
        self.numbers = {}
        self.runs = 0

    def enter(self, scene):
        """Goes through the template of a scene, or takes its text from the memory."""
        if scene.template.slots > 0:
            # What stands in the slots does not hang on the values alone.
            self.runs += 1
            super().enter(scene)
            return
        known = (self.number_of(scene.template), write_literal(scene.variables))
        if known not in self.memory.written:
            start = len(self.texts)
            self.runs += 1
            super().enter(scene)
            self.memory.keep(known, self.text_from(start))
        else:
            self.texts.append(self.memory.written[known])

    def number_of(self, template):
        """Returns the number that the memory has for a template."""
        if template.name not in self.numbers:
            used = tuple([self.number_of(self.templates[name]) for name in template.uses])
            self.numbers[template.name] = self.memory.number_of(template, used)
        return self.numbers[template.name]
