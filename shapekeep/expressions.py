"""Expressions: what templates compute from their data."""

from shapekeep.errors import InvalidText
from shapekeep.reading import Reader
from shapekeep.terms import read_term, reads_of, type_of, value_of


class Expression:
    """An expression, with the variables and fields that it reads."""

    def __init__(self, term):
        self.reads = tuple(sorted(set(reads_of(term))))
        self.variables = tuple(sorted({names[0] for names in self.reads}))
        self.term = term

    @classmethod
    def read(cls, text):
        """Returns the expression that a text is the writing of."""
        if not isinstance(text, str):
            raise InvalidText(text)
        reader = Reader(text)
        found = read_expression(reader)
        if not reader.ended():
            raise InvalidText(text)
        return found

    def typed(self, **types):
        """Returns the Type of the expression for variables of these Types."""
        return type_of(self.term, types)

    def __call__(self, values):
        return value_of(self.term, values)

    def __eq__(self, other):
        return isinstance(other, Expression) and self.term.writing == other.term.writing

    def __str__(self):
        return str(self.term.writing)

    def __repr__(self):
        return f"Expression('{self.term.writing}')"


def read_expression(reader):
    """Reads an expression, which must stand here, and goes behind it."""
    return Expression(read_term(reader))


def is_expression(thing):
    """Tells whether any value is the writing of an expression."""
    try:
        Expression.read(thing)
    except InvalidText:
        return False
    return True
