"""Texts that tell numbers and tables: shown, and read back."""

from turnframe.errors import NoText
from turnframe.kinds import Fractions
from turnframe.tables import MOST
from turnframe.wholes import divisor

FIGURES = "0123456789"
MOST_FIGURES = 60


def show_number(kind, number):
    if not isinstance(kind, Fractions):
        return str(number)
    top = number[0]
    bottom = number[1]
    return str(top) if bottom == 1 else f"{top}/{bottom}"


def show_numbers(kind, numbers):
    return " ".join([show_number(kind, number) for number in numbers])


def show_table(kind, table):
    return "; ".join([show_numbers(kind, row) for row in table])


def need_text(text):
    if not isinstance(text, str):
        raise NoText("what is read is a text")


def read_figures(text):
    # Python reads figures of other writings, signs, blanks and noughts ahead as well: none of them is let through.
    if not 1 <= len(text) <= MOST_FIGURES or not all([sign in FIGURES for sign in text]):
        raise NoText("one to sixty figures are needed")
    if text[0] == "0" and text != "0":
        raise NoText("no nought stands ahead of other figures")
    return int(text)


def read_whole(text):
    if not text.startswith("-"):
        return read_figures(text)
    number = read_figures(text[1:])
    if number == 0:
        raise NoText("nought has no sign")
    return -number


def read_fraction(text):
    parts = text.split("/")
    if len(parts) > 2:
        raise NoText("a fraction has one top and one bottom")
    top = read_whole(parts[0])
    if len(parts) == 1:
        return (top, 1)
    bottom = read_figures(parts[1])
    if bottom < 2 or divisor(top, bottom) > 1:
        raise NoText("a bottom is 2 or more and has no common divisor with the top")
    return (top, bottom)


def read_rest(kind, text):
    number = read_figures(text)
    if not kind.is_number(number):
        raise NoText("a rest is less than its prime")
    return number


def read_number(kind, text):
    need_text(text)
    return read_fraction(text) if isinstance(kind, Fractions) else read_rest(kind, text)


def read_row(kind, text):
    words = text.split(" ")
    if len(words) > MOST:
        raise NoText("a row has at most seven numbers")
    return [read_number(kind, word) for word in words]


def read_table(kind, text):
    need_text(text)
    parts = text.split("; ")
    if len(parts) > MOST:
        raise NoText("a table has at most seven rows")
    rows = [read_row(kind, part) for part in parts]
    if not all([len(row) == len(rows[0]) for row in rows]):
        raise NoText("the rows of a table have as many numbers as one another")
    return rows
