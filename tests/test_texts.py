import copy
import itertools
import re
import unittest
from fractions import Fraction

from samples import ODDITIES, check_own, kinds, random_number, random_table, refused, source, told

from turnframe.errors import NoText
from turnframe.kinds import Fractions, Rests
from turnframe.texts import read_number, read_table, show_number, show_table

FRACTIONS = Fractions()
TWO = Rests(2)
SEVEN = Rests(7)
SIXTY = "9" * 60

# None of these tells a number of any kind.
NO_NUMBERS = (
    "", " ", "-", "/", "+", ".", "-0", "00", "01", "007", "-01", "-00", "+0", "+1", "--1", "1-", "- 1", "1/", "/1",
    "1/0", "1/1", "-1/1", "0/1", "0/2", "-0/2", "2/4", "6/3", "-2/4", "1/-2", "-1/-2", "1/+2", "1/02", "01/2",
    "1/2/3", "1//2", "1/ 2", "1 /2", " 1", "1 ", "  1", "1  ", "1\n", "\n1", "\t1", "1\t", "1\r", "1\f", "1\x00",
    "1.0", "1.", ".5", "1e3", "0x1", "0b1", "1_0", "1,0", "1;", ";1", "1; ", "(1, 2)", "[1]", "a", "one", "nan",
    "inf", "1j", "1L", "\u0661", "\uff11", "\u00b2", "\u00bd", "\u22121", "1\u20442", "\u0967", "1\u00a0", "\u200b1",
    "1" * 61, "-" + "1" * 61, "1/" + "3" * 61, "1" * 61 + "/2", "0" * 60, "0" * 61, "1" * 4000,
)


def number_by_hand(kind, text):
    """The number that a text tells, or None, by Python's own signs and fractions."""
    if isinstance(kind, Rests):
        if re.fullmatch("0|[1-9][0-9]{0,59}", text) and int(text) < kind.prime:
            return int(text)
        return None
    found = re.fullmatch("(0|-?[1-9][0-9]{0,59})(/[1-9][0-9]{0,59})?", text)
    if not found:
        return None
    worth = Fraction(int(found[1]), int((found[2] or "/1")[1:]))
    # Python's own text of a fraction is the one form that is read.
    return told(kind, worth) if text == str(worth) else None


def table_by_hand(kind, text):
    rows = [[number_by_hand(kind, word) for word in row.split(" ")] for row in text.split("; ")]
    if len(rows) > 7 or len(rows[0]) > 7 or {len(row) for row in rows} != {len(rows[0])}:
        return None
    return None if any([each is None or None in row for row in rows for each in row]) else rows


class ShownNumbers(unittest.TestCase):

    def test_written_out(self):
        for number, text in (
            ((0, 1), "0"), ((1, 1), "1"), ((-1, 1), "-1"), ((1, 2), "1/2"), ((-1, 2), "-1/2"), ((7, 3), "7/3"),
            ((-30, 7), "-30/7"), ((10, 1), "10"), ((10 ** 60 - 1, 10 ** 60 - 2), f"{SIXTY}/{SIXTY[:-1]}8"),
        ):
            self.assertEqual(show_number(FRACTIONS, number), text)
            self.assertEqual(read_number(FRACTIONS, text), number)
        for kind, number, text in ((TWO, 0, "0"), (TWO, 1, "1"), (SEVEN, 6, "6"), (Rests(999983), 999982, "999982")):
            self.assertEqual(show_number(kind, number), text)
            self.assertEqual(read_number(kind, text), number)

    def test_all_rests(self):
        for prime in (2, 3, 7, 101, 997):
            kind = Rests(prime)
            for number in range(prime):
                self.assertEqual(show_number(kind, number), str(number))
                self.assertEqual(read_number(kind, str(number)), number)

    def test_read_back(self):
        chance = source(291)
        for kind in kinds():
            for turn in range(200):
                number = random_number(chance, kind)
                text = show_number(kind, number)
                self.assertIs(type(text), str)
                self.assertEqual(number_by_hand(kind, text), number)
                self.assertEqual(read_number(kind, text), number)

    def test_small_fractions(self):
        for top, bottom in itertools.product(range(-20, 21), range(1, 21)):
            worth = Fraction(top, bottom)
            number = told(FRACTIONS, worth)
            # Python shows fractions the same way.
            self.assertEqual(show_number(FRACTIONS, number), str(worth))
            text = f"{top}/{bottom}"
            if text == str(worth):
                self.assertEqual(read_number(FRACTIONS, text), number)
            else:
                refused(self, NoText, read_number, FRACTIONS, text)

    def test_more_than_sixty_figures(self):
        for figures in (60, 61, 100, 2000, 4000):
            top, bottom = 10 ** figures - 1, 10 ** (figures - 1)
            self.assertEqual(show_number(FRACTIONS, (top, 1)), "9" * figures)
            self.assertEqual(show_number(FRACTIONS, (-top, 1)), "-" + "9" * figures)
            self.assertEqual(show_number(FRACTIONS, (1, bottom)), "1/1" + "0" * (figures - 1))
            self.assertEqual(show_number(FRACTIONS, (-top, bottom)), "-" + "9" * figures + "/1" + "0" * (figures - 1))
            if figures > 60:
                for text in ("9" * figures, "-" + "9" * figures, "1/1" + "0" * (figures - 1), "9" * figures + "/2"):
                    refused(self, NoText, read_number, FRACTIONS, text)


class ReadNumbers(unittest.TestCase):

    def test_what_tells_none(self):
        for kind in kinds():
            for text in NO_NUMBERS:
                refused(self, NoText, read_number, kind, text)
                refused(self, NoText, read_table, kind, text)

    def test_numbers_of_the_other_kind(self):
        for text in ("-1", "1/2", "-1/2", "7", "8", "10", SIXTY):
            self.assertIsNotNone(number_by_hand(FRACTIONS, text))
            read_number(FRACTIONS, text)
            refused(self, NoText, read_number, SEVEN, text)
            refused(self, NoText, read_table, SEVEN, text)
        for prime in (2, 3, 101, 999983):
            self.assertEqual(read_number(Rests(prime), str(prime - 1)), prime - 1)
            refused(self, NoText, read_number, Rests(prime), str(prime))
            refused(self, NoText, read_number, Rests(prime), str(prime + 1))

    def test_what_is_no_text(self):
        oddities = [each for each in ODDITIES if not isinstance(each, str)]
        for kind in kinds():
            for each in oddities + [7, 0, -1, (1, 2), [[1]], [[(1, 2)]], ["1"], [["1"]]]:
                refused(self, NoText, read_number, kind, each)
                refused(self, NoText, read_table, kind, each)

    def test_edges_of_sixty_figures(self):
        for text in (SIXTY, "-" + SIXTY, "1/" + SIXTY, "-" + SIXTY + "/" + "1" + "0" * 59, "1" + "0" * 59):
            self.assertEqual(show_number(FRACTIONS, read_number(FRACTIONS, text)), text)
        self.assertEqual(read_number(FRACTIONS, "-" + SIXTY), (1 - 10 ** 60, 1))
        self.assertEqual(read_number(FRACTIONS, "1/" + SIXTY), (1, 10 ** 60 - 1))

    def test_all_short_texts(self):
        for kind in (FRACTIONS, TWO, Rests(13)):
            for count in range(6):
                for signs in itertools.product("0126-/", repeat=count):
                    self.check("".join(signs), kind)

    def check(self, text, kind):
        number = number_by_hand(kind, text)
        if number is None:
            self.assertRaises(NoText, read_number, kind, text)
        else:
            self.assertEqual(read_number(kind, text), number)
            self.assertEqual(show_number(kind, number), text)


class Tables(unittest.TestCase):

    def test_written_out(self):
        table = [[(1, 1), (0, 1)], [(1, 2), (-3, 1)]]
        self.assertEqual(show_table(FRACTIONS, table), "1 0; 1/2 -3")
        self.assertEqual(read_table(FRACTIONS, "1 0; 1/2 -3"), table)
        self.assertEqual(show_table(SEVEN, [[1, 2, 3]]), "1 2 3")
        self.assertEqual(show_table(SEVEN, [[1], [2], [3]]), "1; 2; 3")
        self.assertEqual(read_table(SEVEN, "1; 2; 3"), [[1], [2], [3]])
        self.assertEqual(read_table(SEVEN, "5"), [[5]])
        self.assertEqual(read_table(FRACTIONS, "5"), [[(5, 1)]])
        self.assertEqual(read_table(TWO, "0 1; 1 0"), [[0, 1], [1, 0]])

    def test_all_sizes_read_back(self):
        chance = source(292)
        for kind in kinds():
            for rows, columns in itertools.product(range(1, 8), repeat=2):
                table = random_table(chance, kind, rows, columns)
                text = show_table(kind, table)
                self.assertEqual(table_by_hand(kind, text), table)
                self.assertEqual(read_table(kind, text), table)

    def test_more_than_sixty_figures(self):
        table = [[(10 ** 70, 1), (1, 10 ** 70)], [(-10 ** 61, 3), (0, 1)]]
        text = f"{10 ** 70} 1/{10 ** 70}; -{10 ** 61}/3 0"
        self.assertEqual(show_table(FRACTIONS, table), text)
        refused(self, NoText, read_table, FRACTIONS, text)
        refused(self, NoText, read_table, FRACTIONS, "1 2; 3 " + "4" * 61)

    def test_what_tells_none(self):
        for kind in kinds():
            for text in (
                "1 1; 1", "1; 1 1", "1 1; 1 1; 1", "1 1; ; 1 1", "1  1", " 1 1", "1 1 ", "1 1; 1 1 ", "1 1;1 1",
                "1 1 ; 1 1", "1 1;  1 1", "1 1; 1 1;", "1 1; 1 1; ", "; 1", ";1", ";", "; ", "1;", "1;; 1", "1 1;\n1 1",
                "1\n1", "1\t1", "1 1;\t1 1", "1,1", "1, 1", "1 1: 1 1", "[[1, 1]]", "1 1; 1 a", "1 01", "1 -0", "1 +1",
                " ".join(["1"] * 8), "; ".join(["1"] * 8), "; ".join([" ".join(["1"] * 8)] * 7),
                "; ".join([" ".join(["1"] * 7)] * 8), " ".join(["1"] * 2000), "; ".join(["1"] * 1000),
                "1 1/1", "1 1/0", "1 0/1",
            ):
                refused(self, NoText, read_table, kind, text)
            self.assertEqual(len(read_table(kind, "; ".join([" ".join(["1"] * 7)] * 7))), 7)
        for text in ("1 7; 1 1", "1 1; 1 -1", "1/2 1; 1 1", "1 1; 1 7"):
            refused(self, NoText, read_table, SEVEN, text)

    def test_all_short_texts(self):
        for kind in (FRACTIONS, TWO):
            for count in range(7):
                for signs in itertools.product("01/; " if count < 6 else "1; ", repeat=count):
                    text = "".join(signs)
                    table = table_by_hand(kind, text)
                    if table is None:
                        self.assertRaises(NoText, read_table, kind, text)
                    else:
                        self.assertEqual(read_table(kind, text), table)
                        self.assertEqual(show_table(kind, table), text)


class AskersOwn(unittest.TestCase):

    def test_what_was_handed_in_is_as_it_was(self):
        chance = source(2)
        for kind in kinds():
            table = random_table(chance, kind, 3, 4)
            before = copy.deepcopy(table)
            text = show_table(kind, table)
            self.assertEqual(table, before)
            check_own(self, read_table, [kind, text])
            refused(self, NoText, read_table, kind, text + ";")
            self.assertEqual(show_table(kind, table), text)


if __name__ == "__main__":
    unittest.main()
