import unittest

from samples import (
    ODDITIES, blocks_of_chain, check_turns, like, low_table, near_kinds, noughts, random_chain, random_row,
    random_table, refused, source, times_table_by_hand, unit_by_hand,
)

from turnframe.bare import without
from turnframe.desk import Desk
from turnframe.errors import FrameError, NoFit, NoInverse, NoKind, NoName, NoRow, NoText
from turnframe.frames import frame
from turnframe.kinds import Fractions, Rests
from turnframe.leasts import great, least
from turnframe.powers import power
from turnframe.solving import solved
from turnframe.steps import rank
from turnframe.tables import image, plus_table
from turnframe.texts import read_table, show_number, show_table

FRACTIONS = Fractions()
FIRST_WORDS = (
    "fractions", "rests", "table", "sum", "product", "inverse", "power", "frame", "turn", "show", "rank",
    "determinant", "least", "great", "chain", "alike", "solve",
)
# The rows with names alone, and how many names they have: new ones first.
NAMES_OF = {
    "sum": 3, "product": 3, "inverse": 2, "frame": 2, "turn": 2, "show": 1, "rank": 1, "determinant": 1, "least": 1,
    "great": 1, "chain": 1, "alike": 2,
}
MAKERS = ("sum", "product", "inverse", "frame", "turn")
SIXTY = "9" * 60
NO_NAMES = ("", "A", "a1", "1", "abcdefghi", "a-b", "a_b", "\u00e4", "a\n", "\ta", "a;", "Aa", "\u0430", "a" * 100)
NO_TABLES = ("", " ", "x", "1  2", "1 2;", "1; ", "1;2", "1; 2 3", " 1", "1 ", "01", "-0", "1/1", "2/4", SIXTY + "9")


def numbers_text(kind, numbers):
    return " ".join([show_number(kind, each) for each in numbers])


def desk_with(kind, **tables):
    desk = Desk()
    if isinstance(kind, Rests):
        desk.say(f"rests {kind.prime}")
    for name, table in tables.items():
        desk.say(f"table {name} {show_table(kind, table)}")
    return desk


def standing(desk, names):
    """What a desk shows of these names; None where no table stands."""
    shown = {}
    for name in names:
        try:
            shown[name] = desk.say(f"show {name}")
        except NoName:
            shown[name] = None
    return shown


class Rows(unittest.TestCase):

    def said(self, desk, *pairs):
        for row, answer in pairs:
            self.assertEqual(desk.say(row), answer, row)

    def test_written_out_fractions(self):
        self.said(
            Desk(),
            ("table a 1 0; 1/2 -3", "ok"), ("show a", "1 0; 1/2 -3"), ("rank a", "2"), ("determinant a", "-3"),
            ("table b 0 1; 1 0", "ok"), ("sum c a b", "ok"), ("show c", "1 1; 3/2 -3"),
            ("product c a b", "ok"), ("show c", "0 1; -3 1/2"), ("product c b a", "ok"), ("show c", "1/2 -3; 1 0"),
            ("inverse d a", "ok"), ("show d", "1 0; 1/6 -1/3"), ("power e a 2", "ok"), ("show e", "1 0; -1 9"),
            ("power e a -1", "ok"), ("show e", "1 0; 1/6 -1/3"), ("power e a 0", "ok"), ("show e", "1 0; 0 1"),
            ("least a", "-3 2 1"), ("great a", "-3 2 1"), ("chain a", "-3 2 1"), ("frame f a", "ok"),
            ("show f", "0 3; 1 -2"), ("turn t a", "ok"), ("product l a t", "ok"), ("product r t f", "ok"),
            ("alike a f", "yes"), ("alike a b", "no"), ("solve a 1 1/2", "1 0"), ("solve a 0 3", "0 -1"),
            ("table z 0 0; 0 0", "ok"), ("chain z", "0 1; 0 1"), ("least z", "0 1"), ("great z", "0 0 1"),
            ("solve z 0 0", "0 0"), ("solve z 0 1", "never"), ("rank z", "0"), ("determinant z", "0"),
            ("table w 1 2 3", "ok"), ("show w", "1 2 3"), ("rank w", "1"), ("solve w 5", "5 0 0"),
            ("table n -1/2", "ok"), ("show n", "-1/2"), ("chain n", "1/2 1"), ("determinant n", "-1/2"),
        )

    def test_written_out_rests(self):
        self.said(
            Desk(),
            ("rests 7", "ok"), ("table a 1 2; 3 4", "ok"), ("show a", "1 2; 3 4"), ("determinant a", "5"),
            ("power b a 100000000000000000000000000000000000000000000000000000000001", "ok"), ("show b", "4 1; 5 2"),
            ("power b a -1", "ok"), ("show b", "5 1; 5 3"), ("inverse b a", "ok"), ("show b", "5 1; 5 3"),
            ("power b a 7", "ok"), ("power c a -48", "ok"), ("show c", "1 0; 0 1"),
            ("table c 2 0 0; 0 2 0; 0 0 3", "ok"), ("chain c", "6 2 1; 5 1"), ("least c", "6 2 1"),
            ("great c", "2 2 0 1"), ("frame c c", "ok"), ("show c", "0 1 0; 1 5 0; 0 0 2"), ("rank c", "3"),
            ("rests 2", "ok"), ("table a 0 1; 1 1", "ok"), ("sum a a a", "ok"), ("show a", "0 0; 0 0"),
            ("rests 999983", "ok"), ("table a 999982", "ok"), ("product a a a", "ok"), ("show a", "1"),
            ("fractions", "ok"), ("table a 1/2", "ok"), ("show a", "1/2"),
        )

    def test_each_row_against_the_functions(self):
        chance = source(301)
        for kind in near_kinds():
            for size in (1, 2, 3, 7):
                chain = random_chain(chance, kind, [size - size // 3, size // 3] if size > 2 else [size])
                for A in (random_table(chance, kind, size, size, 2), low_table(chance, kind, size, size, 1),
                          like(chance, kind, blocks_of_chain(kind, chain)), noughts(kind, size, size)):
                    self.check(kind, A, random_table(chance, kind, size, size, 2), random_row(chance, kind, size, 2))

    def check(self, kind, A, B, column):
        desk = desk_with(kind, a=A, b=B)
        poly = lambda f: numbers_text(kind, f)
        found = solved(kind, A, column)
        chain = frame(kind, A)[0]
        self.said(
            desk, ("show a", show_table(kind, A)), ("rank a", str(rank(kind, A))),
            ("determinant a", show_number(kind, without(kind, A))), ("least a", poly(least(kind, A)[0])),
            ("great a", poly(great(kind, A))), ("chain a", "; ".join([poly(f) for f in chain])),
            ("alike a b", "yes" if chain == frame(kind, B)[0] else "no"), ("alike a a", "yes"),
            (f"solve a {poly(column)}", poly(found[1]) if found[0] == "found" else "never"),
            ("sum x a b", "ok"), ("show x", show_table(kind, plus_table(kind, A, B))),
            ("product x a b", "ok"), ("show x", show_table(kind, times_table_by_hand(kind, A, B))),
            ("power x a 3", "ok"), ("show x", show_table(kind, power(kind, A, 3))),
            ("frame x a", "ok"), ("show x", show_table(kind, blocks_of_chain(kind, chain))),
            ("turn y a", "ok"), ("inverse z y", "ok"),
        )
        texts = [desk.say(f"show {name}") for name in ("y", "z")]
        if all([len(word) < 60 for text in texts for word in text.replace(";", "").replace("/", " ").split(" ")]):
            T, S = [read_table(kind, text) for text in texts]
            check_turns(self, kind, A, T, S, blocks_of_chain(kind, chain))
        if rank(kind, A) == len(A):
            self.said(desk, ("inverse x a", "ok"), ("power y a -1", "ok"), ("product z x a", "ok"),
                      ("show z", show_table(kind, unit_by_hand(kind, len(A)))), ("alike x y", "yes"))
            self.assertEqual(desk.say("show x"), desk.say("show y"))
        else:
            self.assertEqual(refused(self, NoInverse, desk.say, "inverse x a").rank, rank(kind, A))
            self.assertEqual(refused(self, NoInverse, desk.say, "power x a -2").rank, rank(kind, A))

    def test_tables_that_are_not_square(self):
        self.said(Desk(), ("table a 1 2; 3 4; 5 6", "ok"), ("table b 1 0 2; 0 1 3", "ok"), ("product c a b", "ok"),
                  ("show c", "1 2 8; 3 4 18; 5 6 28"), ("product c b a", "ok"), ("show c", "11 14; 18 22"),
                  ("sum c a a", "ok"), ("show c", "2 4; 6 8; 10 12"), ("rank a", "2"), ("rank b", "2"),
                  ("solve a 1 3 5", "1 0"), ("solve a 1 3 6", "never"), ("solve b 4 5", "4 5 0"))


class Names(unittest.TestCase):

    def test_one_to_eight_letters(self):
        desk = Desk()
        for name in ("a", "z", "abcdefgh", "zzzzzzzz", "zz", "m"):
            self.assertEqual(desk.say(f"table {name} 1"), "ok")
            self.assertEqual(desk.say(f"show {name}"), "1")

    def test_first_words_are_names(self):
        desk = Desk()
        names = [word for word in FIRST_WORDS if len(word) <= 8] + ["ok", "yes", "no", "never", "new"]
        for place, name in enumerate(names):
            self.assertEqual(desk.say(f"table {name} {place}"), "ok")
        for place, name in enumerate(names):
            self.assertEqual(desk.say(f"show {name}"), str(place))
        self.assertEqual(desk.say("sum sum table product"), "ok")
        self.assertEqual(desk.say("show sum"), str(names.index("table") + names.index("product")))
        refused(self, NoName, desk.say, "table fractions 1")
        refused(self, NoName, desk.say, "show determinant")

    def test_what_is_no_name(self):
        desk = desk_with(FRACTIONS, a=[[(1, 1)]])
        for name in NO_NAMES:
            refused(self, NoName, desk.say, f"table {name} 1")
            refused(self, NoName, desk.say, f"power {name} a 1")
            refused(self, NoName, desk.say, f"power b {name} 1")
            refused(self, NoName, desk.say, f"solve {name} 1")
            for word, count in NAMES_OF.items():
                for place in range(count):
                    names = ["a"] * count
                    names[place] = name
                    refused(self, NoName, desk.say, " ".join([word] + names))
            self.assertEqual(standing(desk, ("a", "b")), {"a": "1", "b": None})

    def test_names_by_which_no_table_stands(self):
        desk = desk_with(FRACTIONS, a=[[(1, 1)]])
        refused(self, NoName, desk.say, "power b c 1")
        refused(self, NoName, desk.say, "power b b 1")
        refused(self, NoName, desk.say, "solve b 1")
        for word, count in NAMES_OF.items():
            for place in range(1 if word in MAKERS else 0, count):
                names = ["a"] * count
                names[place] = "b"
                refused(self, NoName, desk.say, " ".join([word] + names))
        self.assertEqual(standing(desk, ("a", "b", "c")), {"a": "1", "b": None, "c": None})
        refused(self, NoName, Desk().say, "show a")

    def test_a_new_one_stands_for_the_old_one(self):
        desk = desk_with(FRACTIONS, a=[[(2, 1)]], b=[[(3, 1)]])
        for row, shown in (("sum a a b", "5"), ("product a b a", "15"), ("sum b b b", "6"), ("product a a a", "225"),
                           ("inverse a a", "1/225"), ("power a a -1", "225"), ("frame a a", "225"), ("turn c a", None),
                           ("table a 1 2; 3 4", "1 2; 3 4"), ("table a 7", "7"), ("turn a a", None)):
            self.assertEqual(desk.say(row), "ok")
            if shown is not None:
                self.assertEqual(desk.say(f"show {row.split(' ')[1]}"), shown)


class KindsOfADesk(unittest.TestCase):

    def test_fractions_at_first(self):
        self.assertEqual(Desk().say("table a -1/2"), "ok")

    def test_no_table_stands_behind_another_kind(self):
        for row in ("fractions", "rests 7", "rests 2"):
            desk = Desk()
            for before in ("fractions", "rests 7", "rests 2"):
                desk.say(before)
                desk.say("table a 1")
                desk.say("table b 1 0; 0 1")
                self.assertEqual(desk.say(row), "ok")
                for name in ("a", "b"):
                    refused(self, NoName, desk.say, f"show {name}")

    def test_texts_are_of_the_kind(self):
        desk = Desk()
        desk.say("rests 7")
        for text in ("7", "-1", "1/2"):
            refused(self, NoText, desk.say, f"table a {text}")
        desk.say("table a 6")
        refused(self, NoText, desk.say, "solve a 7")
        refused(self, NoText, desk.say, "solve a -1")
        desk.say("fractions")
        for text in ("7", "-1", "1/2"):
            self.assertEqual(desk.say(f"table a {text}"), "ok")

    def test_rests_by_a_prime_alone(self):
        desk = desk_with(FRACTIONS, a=[[(1, 2)]])
        for word in ("0", "1", "4", "6", "9", "91", "999981", "1000000", "1000003", SIXTY, "1" + "0" * 59):
            refused(self, NoKind, desk.say, f"rests {word}")
        for word in ("", "02", "07", "-7", "-0", "+7", "7/2", "7.0", "x", "p", "00", "\u0667", "7\n", "7" * 61):
            refused(self, NoText, desk.say, f"rests {word}")
        self.assertEqual(desk.say("show a"), "1/2")
        self.assertEqual(desk.say("table b 1/3"), "ok")
        for prime in (2, 3, 101, 997, 65537, 999979, 999983):
            self.assertEqual(desk.say(f"rests {prime}"), "ok")
            self.assertEqual(desk.say(f"table a {prime - 1}"), "ok")
            refused(self, NoText, desk.say, f"table a {prime}")

    def test_two_desks_side_by_side(self):
        one, other = Desk(), Desk()
        one.say("table a 1/2")
        refused(self, NoName, other.say, "show a")
        other.say("rests 7")
        other.say("table a 3")
        other.say("table b 4")
        self.assertEqual((one.say("show a"), other.say("show a")), ("1/2", "3"))
        refused(self, NoName, one.say, "show b")
        one.say("fractions")
        refused(self, NoName, one.say, "show a")
        self.assertEqual(other.say("show a"), "3")
        self.assertEqual(other.say("sum c a b"), "ok")
        self.assertEqual(other.say("show c"), "0")


class Refusals(unittest.TestCase):

    def desk(self):
        return desk_with(FRACTIONS, a=[[(1, 2), (0, 1)], [(0, 1), (3, 1)]], b=[[(1, 1), (2, 1), (3, 1)]])

    def check(self, desk, refusal, row):
        before = standing(desk, ("a", "b", "c", "x"))
        refused(self, refusal, desk.say, row)
        self.assertEqual(standing(desk, ("a", "b", "c", "x")), before)
        # The kind is the same too.
        self.assertEqual(desk.say("table probe 1/2"), "ok")

    def test_rows_that_are_none(self):
        desk = self.desk()
        for row in (
            "", " ", "  ", "a", "ok", "Show a", "SHOW a", "shows a", "show", " show a", "show a ", "show  a",
            "show a a", "show\ta", "show\na", "fractions ", " fractions", "fractions a", "fractions 7",
            "fractions  ", "rests", "rests 7 ", "rests 7 7", "rests  7", "table", "table a", "sum", "sum a",
            "sum c a", "sum c a a a", "sum c a a ", "sum  c a a", "product c a", "product c a a a", "inverse",
            "inverse c", "inverse c a a", "inverse c a ", "power", "power c", "power c a", "power c a 1 1",
            "power c a 1 ", "power c a  1", "power  c a 1", "frame c", "frame c a a", "turn c", "turn c a a", "rank",
            "rank a a", "determinant", "determinant a a", "least", "least a a", "great", "great a a", "chain",
            "chain a a", "alike", "alike a", "alike a a a", "alike a  a", "solve", "solve a", "tables a 1",
            "table\ta 1", "rest 7", "fraction", "show;a", "show:a a", "nothing a", "kernel a", "near a",
            "image a 1 1", "turned c a", "unit a", "roots a", "quit", "1", "-",
        ):
            self.check(desk, NoRow, row)

    def test_counts_of_words(self):
        desk = self.desk()
        for word in FIRST_WORDS:
            counts = {"fractions": [0], "rests": [1], "power": [3], "table": range(2, 9), "solve": range(2, 9)}
            right = counts.get(word, [NAMES_OF.get(word)])
            for count in range(8):
                row = " ".join([word] + ["q"] * count)
                if count not in right:
                    self.check(desk, NoRow, row)
                elif word not in ("fractions",):
                    # The names stand for no table, so the row is refused, but not as none.
                    refused(self, NoText if word in ("rests", "table") else NoName, desk.say, row)

    def test_what_is_no_text(self):
        desk = self.desk()
        for each in ODDITIES:
            self.check(desk, NoRow, each)
        for each in (["show", "a"], ("show", "a"), b"show a", 7, None, ["show a"]):
            self.check(desk, NoRow, each)

    def test_words_without_signs(self):
        desk = self.desk()
        for row, refusal in (("show ", NoName), ("rank ", NoName), ("table  1", NoName), ("sum c  a", NoName),
                             ("sum  a a", NoName), ("alike a ", NoName), ("alike  a", NoName), ("inverse  a", NoName),
                             ("inverse c ", NoName), ("solve  1 2", NoName), ("power c  1", NoName),
                             ("rests ", NoText), ("table c ", NoText), ("table c  1", NoText), ("table c 1 ", NoText),
                             ("table c 1  2", NoText), ("solve a ", NoText), ("solve a  1 2", NoText),
                             ("solve a 1 2 ", NoText), ("solve a 1  2", NoText), ("power c a ", NoText)):
            self.check(desk, refusal, row)

    def test_texts(self):
        desk = self.desk()
        for text in NO_TABLES:
            self.check(desk, NoText, f"table c {text}")
            self.check(desk, NoText, f"table a {text}")
            self.check(desk, NoText, f"solve a {text}")
        for text in ("1 2; 3 4", "1; 2", "1 2; 1 2", "1 2 3 4 5 6 7 8"):
            self.check(desk, NoText, f"solve a {text}")
        for text in ("", "x", "01", "-0", "00", "+1", "1/2", "2/1", "--1", "1.0", "\u0661", "1" * 61, "-" + "1" * 61):
            self.check(desk, NoText, f"power c a {text}")
        for text in ("1 2 3 4 5 6 7 8", "; ".join("12345678"), "1 2; 3", "1 2 ; 3 4"):
            self.check(desk, NoText, f"table c {text}")

    def test_what_the_functions_refuse(self):
        desk = self.desk()
        for row in ("sum c a b", "sum c b a", "product c a b", "product c b b", "inverse c b", "power c b 2",
                    "power c b 0", "power c b -1", "frame c b", "turn c b", "determinant b", "least b", "great b",
                    "chain b", "alike a b", "alike b a", "alike b b", "solve a 1", "solve a 1 2 3", "solve b 1 2",
                    "sum a a b", "product b b b", "inverse b b", "frame b b"):
            self.check(desk, NoFit, row)
        self.assertEqual(desk.say("table x 1 2; 2 4"), "ok")
        for row in ("inverse c x", "inverse x x", "power c x -1", "power x x -60"):
            self.check(desk, NoInverse, row)
            self.assertEqual(refused(self, NoInverse, desk.say, row).rank, 1)
        self.assertEqual(desk.say("table x 1 0 0; 0 1 0; 0 0 1"), "ok")
        self.check(desk, NoFit, "alike a x")
        self.check(desk, NoFit, "sum c a x")

    def test_which_comes_first(self):
        desk = self.desk()
        for row in ("show Q q", "sum Q q", "power Q q", "table Q", "solve q", "rests 8 8", "power c a x 1"):
            self.check(desk, NoRow, row)
        for row in (
            "table Q x", "table Q 1/1", "power Q b x", "power c q x", "power Q a 01", "solve q x", "solve Q 1  2",
            "sum Q a b", "sum c q b", "sum c b q", "inverse Q b", "inverse c q", "power Q b -1", "alike b q",
            "alike q b", "frame Q b", "turn Q b",
        ):
            self.check(desk, NoName, row)
        for row in ("power c b x", "power c b 01", "solve b 1 x", "solve a 1 2; 3 4", "solve b 1  2", "rests 4x"):
            self.check(desk, NoText, row)
        desk.say("table x 0")
        self.check(desk, NoText, "power c x -01")
        self.check(desk, NoInverse, "power c x -1")

    def test_every_refusal_is_one_of_the_program(self):
        chance = source(302)
        desk = self.desk()
        words = list(FIRST_WORDS) + ["a", "b", "c", "q", "Q", "", "1", "-1", "0", "1/2", "1 2;", "2", "x;"]
        for turn in range(3000):
            row = " ".join([chance.choice(words) for count in range(chance.randint(0, 5))])
            try:
                self.assertIs(type(desk.say(row)), str)
            except FrameError:
                pass


class GreatNumbers(unittest.TestCase):

    def test_more_than_sixty_figures(self):
        desk = Desk()
        desk.say(f"table a {SIXTY}")
        number = 10 ** 60 - 1
        while number < 10 ** 1930:
            self.assertEqual(desk.say("product a a a"), "ok")
            number *= number
            self.assertEqual(desk.say("show a"), str(number))
            self.assertEqual(desk.say("determinant a"), str(number))
            self.assertEqual(desk.say("rank a"), "1")
            self.assertEqual(desk.say("chain a"), f"-{number} 1")
            self.assertEqual(desk.say("solve a 1"), f"1/{number}")
            self.assertEqual(desk.say("inverse b a"), "ok")
            self.assertEqual(desk.say("show b"), f"1/{number}")
            self.assertEqual(desk.say("product c a b"), "ok")
            self.assertEqual(desk.say("show c"), "1")
            refused(self, NoText, desk.say, f"table d {number}")
        self.assertGreater(number, 10 ** 3800)

    def test_tables_of_several_rows(self):
        desk = Desk()
        desk.say(f"table a 1 {SIXTY}/10; -1/{SIXTY} 2")
        desk.say("power b a 12")
        T = power(FRACTIONS, [[(1, 1), (10 ** 60 - 1, 10)], [(-1, 10 ** 60 - 1), (2, 1)]], 12)
        self.assertEqual(desk.say("show b"), show_table(FRACTIONS, T))
        self.assertEqual(desk.say("determinant b"), show_number(FRACTIONS, without(FRACTIONS, T)))
        self.assertEqual(desk.say("great b"), numbers_text(FRACTIONS, great(FRACTIONS, T)))
        self.assertEqual(desk.say("alike b a"), "no")
        desk.say("frame f b")
        self.assertEqual(desk.say("alike b f"), "yes")
        desk.say("turn t b")
        desk.say("inverse s t")
        desk.say("product x s b")
        desk.say("product x x t")
        self.assertEqual(desk.say("show x"), desk.say("show f"))
        x = solved(FRACTIONS, T, [(1, 1), (1, 3)])[1]
        self.assertEqual(desk.say("solve b 1 1/3"), numbers_text(FRACTIONS, x))
        self.assertEqual(image(FRACTIONS, T, x), [(1, 1), (1, 3)])

    def test_seven_rows_of_sixty_figures(self):
        chance, desk = source(303), Desk()
        A = [[(chance.randint(-10 ** 59, 10 ** 59), 1) for column in range(7)] for row in range(7)]
        desk.say(f"table a {show_table(FRACTIONS, A)}")
        self.assertEqual(desk.say("show a"), show_table(FRACTIONS, A))
        self.assertEqual(desk.say("chain a"), numbers_text(FRACTIONS, great(FRACTIONS, A)))
        desk.say("turn t a")
        desk.say("inverse s t")
        desk.say("product x a t")
        desk.say("product x s x")
        desk.say("frame f a")
        self.assertEqual(desk.say("show x"), desk.say("show f"))

    def test_a_thousand_rows(self):
        desk = Desk()
        desk.say("table a 1 1; 0 1")
        desk.say("table b 1 1; 0 1")
        for turn in range(990):
            self.assertEqual(desk.say("product a a b"), "ok")
        self.assertEqual(desk.say("show a"), "1 991; 0 1")


if __name__ == "__main__":
    unittest.main()
