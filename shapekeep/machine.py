"""The machine: plans as rows that are gone through with jumps.

A row is a tuple of a word and of what belongs to it; where a row jumps to is the index of another row.
"""

from shapekeep.escaping import escape
from shapekeep.expressions import Expression
from shapekeep.forms import check_plan


class Program:
    """The rows of a plan."""

    def __init__(self, plan, rows):
        self.source = plan
        self.rows = rows

    def __call__(self, data):
        return "".join(self.pieces(data))

    def pieces(self, data):
        """Yields the texts that the plan writes with these variables, as they are written."""
        state = State(data)
        while state.at < len(self.rows):
            text = state.take(self.rows[state.at])
            if text:
                yield text

    def __len__(self):
        return len(self.rows)

    def __eq__(self, other):
        return isinstance(other, Program) and self.source == other.source

    def __repr__(self):
        return f"Program({len(self.rows)} rows)"


def assemble(plan):
    """Returns the program of a plan."""
    check_plan(plan)
    assembler = Assembler()
    assembler.add_plan(plan)
    return Program(plan, tuple(assembler.rows))


class Assembler:
    """Makes the rows of plans."""

    def __init__(self):
        self.rows = []

    def add_plan(self, plan):
        """Adds the rows of all nodes of a plan."""
        for node in plan:
            self.add_node(node)

    def add_node(self, node):
        """Adds the rows of a node."""
        kind = node[0]
        if kind == "write":
            self.rows.append(node)
        elif kind == "show":
            self.rows.append(("show", node[1], Expression.read(node[2])))
        elif kind == "if":
            self.add_choice(node)
        elif kind == "for":
            self.add_loop(node)
        elif kind == "let":
            self.add_inner(("let", node[1], Expression.read(node[2])), node[3])
        elif kind == "scope":
            self.add_inner(("scope", tuple([(name, Expression.read(written)) for name, written in node[1]])), node[2])
        else:
            self.add_inner(("outer",), node[1])

    def add_inner(self, row, plan):
        """Adds a row that changes the variables, a plan, and a row that brings the former variables back."""
        self.rows.append(row)
        self.add_plan(plan)
        self.rows.append(("back",))

    def add_choice(self, node):
        """Adds the rows of an if."""
        test = self.add_open()
        self.add_plan(node[2])
        jump = self.add_open()
        self.rows[test] = ("test", Expression.read(node[1]), len(self.rows))
        self.add_plan(node[3])
        self.rows[jump] = ("jump", len(self.rows))

    def add_loop(self, node):
        """Adds the rows of a for."""
        self.rows.append(("start", Expression.read(node[2])))
        turn = self.add_open()
        self.add_plan(node[3])
        self.rows.append(("jump", turn))
        self.rows[turn] = ("turn", node[1], len(self.rows))

    def add_open(self):
        """Adds a row of which it is not known yet where it jumps to, and returns its index."""
        self.rows.append(())
        return len(self.rows) - 1


class Loop:
    """A for that has begun: its list, how far it has come, and the variables around it."""

    def __init__(self, rows, variables):
        self.rows = rows
        self.done = 0
        self.variables = variables


class State:
    """How far the machine has come with its rows, and which variables there are."""

    def __init__(self, variables):
        self.at = 0
        self.variables = variables
        # What an outer goes back to: the variables around the innermost scope, with what is outside of these; or None.
        self.outside = None
        self.kept = []
        self.loops = []

    def take(self, row):
        """Does what a row says, and returns the text that it writes, or an empty one."""
        word = row[0]
        self.at += 1
        if word == "write":
            return row[1]
        if word == "show":
            return escape(row[1], row[2](self.variables))
        if word == "jump":
            self.at = row[1]
        elif word == "test":
            self.at = self.at if row[1](self.variables) else row[2]
        elif word == "start":
            self.loops.append(Loop(row[1](self.variables), self.variables))
        elif word == "turn":
            self.turn(row[1], row[2])
        elif word == "back":
            self.variables, self.outside = self.kept.pop()
        else:
            self.change(row)
        return ""

    def turn(self, name, end):
        """Begins with the next element of the innermost loop, or leaves the loop."""
        loop = self.loops[-1]
        if loop.done < len(loop.rows):
            self.variables = {**loop.variables, name: loop.rows[loop.done]}
            loop.done += 1
        else:
            self.variables = loop.variables
            self.at = end
            self.loops.pop()

    def change(self, row):
        """Goes on with other variables, and keeps the present ones."""
        self.kept.append((self.variables, self.outside))
        if row[0] == "let":
            self.variables = {**self.variables, row[1]: row[2](self.variables)}
        elif row[0] == "scope":
            self.outside = (self.variables, self.outside)
            self.variables = {name: expression(self.variables) for name, expression in row[1]}
        else:
            self.variables, self.outside = self.outside
