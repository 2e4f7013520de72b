"""A desk: it keeps a kind and tables by names, is told rows of words, and answers each."""

from turnframe.dets import by_steps
from turnframe.errors import NoName, NoRow, NoText
from turnframe.frames import blocks, frame
from turnframe.kinds import Fractions, Rests
from turnframe.leasts import great, least
from turnframe.likes import are_alike
from turnframe.powers import power
from turnframe.solving import inverse, solved
from turnframe.splits import chain_of, heads
from turnframe.steps import rank
from turnframe.tables import plus_table, times_table
from turnframe.texts import read_figures, read_table, read_whole, show_number, show_numbers, show_table

LETTERS = "abcdefghijklmnopqrstuvwxyz"
MOST_LETTERS = 8

# What follows each first word: a name for a new table, a name by which one stands, or a text by what it tells.
FORMS = {
    "fractions": (),
    "rests": ("figures",),
    "table": ("new", "table"),
    "sum": ("new", "old", "old"),
    "product": ("new", "old", "old"),
    "inverse": ("new", "old"),
    "power": ("new", "old", "whole"),
    "frame": ("new", "old"),
    "turn": ("new", "old"),
    "show": ("old",),
    "rank": ("old",),
    "determinant": ("old",),
    "least": ("old",),
    "great": ("old",),
    "chain": ("old",),
    "alike": ("old", "old"),
    "solve": ("old", "row"),
}


def form_of(word):
    if word not in FORMS:
        raise NoRow("a row begins with a word that is listed")
    return FORMS[word]


def takes_the_rest(form):
    return len(form) > 0 and form[-1] in ("table", "row")


def words_of(row):
    """The words of a row, a text of several words as one."""
    if not isinstance(row, str):
        raise NoRow("a row is a text")
    words = row.split(" ")
    form = form_of(words[0])
    if takes_the_rest(form):
        words = row.split(" ", len(form))
    if len(words) != len(form) + 1:
        raise NoRow("a row has as many words as are listed behind its first one")
    return words


def is_name(word):
    return 1 <= len(word) <= MOST_LETTERS and all([letter in LETTERS for letter in word])


def read_one_row(kind, text):
    rows = read_table(kind, text)
    if len(rows) > 1:
        raise NoText("numbers are told as one row")
    return rows[0]


def chain_at(kind, A):
    # The frame itself is not asked: its turns may have far greater numbers than the chain.
    return chain_of(heads(kind, A))


def solution_text(kind, A, column):
    found = solved(kind, A, column)
    return show_numbers(kind, found[1]) if found[0] == "found" else "never"


class Desk:

    def __init__(self):
        self.kind = Fractions()
        self.tables = {}

    def say(self, row):
        words = words_of(row)
        form = form_of(words[0])
        for role, word in zip(form, words[1:]):
            self.check_name(role, word)
        given = [self.told_by(role, word) for role, word in zip(form, words[1:])]
        if words[0] in ("fractions", "rests"):
            return self.begin(Fractions() if words[0] == "fractions" else Rests(given[0]))
        if form[0] == "new":
            self.tables[given[0]] = self.made(words[0], given)
            return "ok"
        return self.answer(words[0], given)

    def check_name(self, role, word):
        if role in ("new", "old") and not is_name(word):
            raise NoName("a name has one to eight letters from a to z")
        if role == "old" and word not in self.tables:
            raise NoName("no table stands by this name")

    def told_by(self, role, word):
        """What a word tells: a name for a new table itself, the table that stands by a name, or what a text tells."""
        if role == "old":
            return self.tables[word]
        if role == "figures":
            return read_figures(word)
        if role == "whole":
            return read_whole(word)
        if role == "table":
            return read_table(self.kind, word)
        if role == "row":
            return read_one_row(self.kind, word)
        return word

    def begin(self, kind):
        self.kind = kind
        self.tables = {}
        return "ok"

    def made(self, word, given):
        """The new table; what is given begins with its name."""
        if word == "table":
            return given[1]
        if word == "sum":
            return plus_table(self.kind, given[1], given[2])
        if word == "product":
            return times_table(self.kind, given[1], given[2])
        if word == "inverse":
            return inverse(self.kind, given[1])
        if word == "power":
            return power(self.kind, given[1], given[2])
        if word == "frame":
            return blocks(self.kind, chain_at(self.kind, given[1]))
        return frame(self.kind, given[1])[1]

    def answer(self, word, given):
        A = given[0]
        if word == "show":
            return show_table(self.kind, A)
        if word == "rank":
            return str(rank(self.kind, A))
        if word == "determinant":
            return show_number(self.kind, by_steps(self.kind, A))
        if word == "least":
            return show_numbers(self.kind, least(self.kind, A)[0])
        if word == "great":
            return show_numbers(self.kind, great(self.kind, A))
        if word == "chain":
            return show_table(self.kind, chain_at(self.kind, A))
        if word == "alike":
            return "yes" if are_alike(self.kind, A, given[1]) else "no"
        return solution_text(self.kind, A, given[1])
