"""What the checker knows of expressions.

A term is a tuple: ("variable", names), ("plain", T, value), or the word of a function and a tuple of its arguments.
"""

from shapekeep.proof_signs import DIGITS, LETTERS, demand, is_text, is_variable
from shapekeep.proof_values import PLAIN_TYPES

MAX_LEVEL = 8
MAX_QUOTED = 60
MAX_DIGITS = 15
# What stands in quotes has none of these signs.
NOT_QUOTED = "\"{}\n"
TEXT = ("text",)
NUMBER = ("number",)
FLAG = ("flag",)
# How many arguments the functions have; 0: one or more.
MANY = {"equal": 2, "less": 2, "not": 1, "both": 2, "either": 2, "sum": 0, "joined": 0, "size": 1, "has": 1,
        "or_else": 2}
# The kinds of the types of arguments and of results, where all arguments have the same type.
ALIKE = {"less": ("number", "flag"), "sum": ("number", "number"), "not": ("flag", "flag"), "both": ("flag", "flag"),
         "either": ("flag", "flag")}


def term_at(scan, levels=MAX_LEVEL):
    """Reads an expression of at most so many levels that comes next."""
    demand(levels > 0)
    if scan.has("\""):
        found = scan.until("\"")
        demand(len(found) <= MAX_QUOTED and is_text(found) and not [sign for sign in NOT_QUOTED if sign in found])
        return ("plain", TEXT, found)
    if scan.next_is("-" + DIGITS):
        return ("plain", NUMBER, _number_at(scan))
    word = scan.row(LETTERS + "_")
    if scan.has("("):
        return _call_at(scan, word, levels - 1)
    if word in ("true", "false"):
        return ("plain", FLAG, word == "true")
    demand(is_variable(word))
    names = [word]
    while scan.has("."):
        names.append(scan.take_name())
    return ("variable", tuple(names))


def _number_at(scan):
    """Reads a number that comes next."""
    negative = scan.has("-")
    digits = scan.row(DIGITS)
    demand(1 <= len(digits) <= MAX_DIGITS)
    demand(digits[0] != "0" or digits == "0" and not negative)
    return -int(digits) if negative else int(digits)


def _call_at(scan, word, levels):
    """Reads the arguments of a function, behind its bracket."""
    demand(word in MANY)
    arguments = [term_at(scan, levels)]
    while scan.has(", "):
        arguments.append(term_at(scan, levels))
    scan.want(")")
    demand(MANY[word] in (0, len(arguments)))
    return (word, tuple(arguments))


def type_of_term(term, scope):
    """Returns the type that a term must have, for a dict from variables to their types."""
    word = term[0]
    if word == "plain":
        return term[1]
    if word == "variable":
        return _type_of_variable(term[1], scope)
    types = [type_of_term(argument, scope) for argument in term[1]]
    if word in ALIKE:
        wanted, found = ALIKE[word]
        demand(all([one == (wanted,) for one in types]))
        return (found,)
    if word == "joined":
        demand(all([one in (TEXT, NUMBER) for one in types]))
        return TEXT
    if word == "size":
        demand(types[0][0] == "list")
        return NUMBER
    if word == "has":
        demand(types[0][0] == "optional")
        return FLAG
    if word == "equal":
        demand(types[0] == types[1] and types[0][0] in PLAIN_TYPES)
        return FLAG
    demand(types[0] == ("optional", types[1]))
    return types[1]


def _type_of_variable(names, scope):
    """Returns the type that the names lead to."""
    fields = scope
    found = None
    for name in names:
        demand(name in fields)
        found = fields[name]
        fields = dict(found[1]) if found[0] == "record" else {}
    return found


def value_of_term(term, variables):
    """Returns the value of a term that has a type, for a dict from variables to their values."""
    word = term[0]
    if word == "plain":
        return term[2]
    if word == "variable":
        found = variables
        for name in term[1]:
            found = found[name]
        return found
    return _value_of_call(word, [value_of_term(argument, variables) for argument in term[1]])


def _value_of_call(word, given):
    """Returns what a function gives for these arguments."""
    if word == "sum":
        return sum(given)
    if word == "joined":
        return "".join([str(one) for one in given])
    first, last = given[0], given[-1]
    if word == "equal":
        return first == last
    if word == "less":
        return first < last
    if word == "both":
        return first and last
    if word == "either":
        return first or last
    if word == "not":
        return not first
    if word == "size":
        return len(first)
    if word == "has":
        return first is not None
    return last if first is None else first
