"""How texts are written within text nodes, attributes and addresses, and how these writings are read."""

from shapekeep.signs import is_digit, is_letter

# The signs that addresses write as codes, and behind them their codes in the same order.
CODED = "\n !\"#$&'()*+,/:;<=>?@[\\]^`{|}~"
CODES = ("0a", "20", "21", "22", "23", "24", "26", "27", "28", "29", "2a", "2b", "2c", "2f", "3a", "3b", "3c", "3d",
         "3e", "3f", "40", "5b", "5c", "5d", "5e", "60", "7b", "7c", "7d", "7e")


def stands_for_itself(sign):
    """Tells whether a character is its own code."""
    return is_letter(sign) or "A" <= sign <= "Z" or is_digit(sign) or sign in "-_."


def write_text(text):
    """Returns the writing of a text within a text node."""
    return text.replace("&", "&amp;").replace("<", "&lt;")


def write_attribute(text):
    """Returns the writing of a text within an attribute."""
    return write_text(text).replace("\"", "&quot;")


def write_code(text):
    """Returns the code of a text."""
    return "".join([sign if stands_for_itself(sign) else f"~{ord(sign):02x}" for sign in text])


def read_text(writing):
    """Returns the text of which this is the writing within a text node or an attribute."""
    # The writing of `&` is read last, as what it leaves behind could look like one of the others.
    return writing.replace("&quot;", "\"").replace("&lt;", "<").replace("&amp;", "&")


def read_code(code):
    """Returns the text of which this is the code."""
    plain, *coded = code.split("~")
    return plain + "".join([CODED[CODES.index(part[:2])] + part[2:] for part in coded])
