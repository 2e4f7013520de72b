import copy
import unittest

from samples import (
    WHOLES, all_tables, check_own, kinds, random_number, random_table, refused, source, tolds, worth, worths,
)

from turnframe.errors import NoTurn
from turnframe.kinds import Fractions, Rests
from turnframe.tables import unit
from turnframe.turns import backward, done

SEVEN = Rests(7)
TABLE = [[1, 2, 3], [4, 5, 6], [0, 1, 2]]


def random_scale(chance, kind, figures):
    number = kind.number(0)
    while kind.is_nought(number):
        number = random_number(chance, kind, figures)
    return number


def random_turn(chance, kind, rows, figures=1):
    name = chance.choice(("swap", "scale", "add")) if rows > 1 else "scale"
    i = chance.randrange(rows)
    if name == "scale":
        return (name, i, random_scale(chance, kind, figures))
    j = chance.choice([each for each in range(rows) if each != i])
    return (name, i, j) if name == "swap" else (name, i, j, random_number(chance, kind, figures))


def random_turns(chance, kind, rows, count, figures=1):
    return [random_turn(chance, kind, rows, figures) for turn in range(count)]


def done_by_hand(kind, table, turns):
    rows = worths(kind, table)
    for turn in turns:
        name, i = turn[0], turn[1]
        if name == "swap":
            rows[i], rows[turn[2]] = rows[turn[2]], rows[i]
        elif name == "scale":
            rows[i] = [worth(kind, turn[2]) * each for each in rows[i]]
        else:
            rows[i] = [each + worth(kind, turn[3]) * other for each, other in zip(rows[i], rows[turn[2]])]
    return tolds(kind, rows)


class Done(unittest.TestCase):

    def test_each_turn_written_out(self):
        self.assertEqual(done(SEVEN, TABLE, [("swap", 0, 2)]), [[0, 1, 2], [4, 5, 6], [1, 2, 3]])
        self.assertEqual(done(SEVEN, TABLE, [("swap", 2, 0)]), [[0, 1, 2], [4, 5, 6], [1, 2, 3]])
        self.assertEqual(done(SEVEN, TABLE, [("scale", 1, 3)]), [[1, 2, 3], [5, 1, 4], [0, 1, 2]])
        self.assertEqual(done(SEVEN, TABLE, [("add", 0, 1, 2)]), [[2, 5, 1], [4, 5, 6], [0, 1, 2]])
        self.assertEqual(done(SEVEN, TABLE, [("add", 1, 0, 2)]), [[1, 2, 3], [6, 2, 5], [0, 1, 2]])
        table = [[(1, 2), (0, 1)], [(1, 3), (-2, 1)]]
        self.assertEqual(done(Fractions(), table, [("scale", 0, (-4, 3))]), [[(-2, 3), (0, 1)], table[1]])
        self.assertEqual(done(Fractions(), table, [("add", 0, 1, (3, 2))]), [[(1, 1), (-3, 1)], table[1]])
        self.assertEqual(done(Fractions(), table, [("swap", 1, 0)]), [table[1], table[0]])

    def test_one_behind_the_other(self):
        table = [[1, 2], [3, 4]]
        self.assertEqual(done(SEVEN, table, [("scale", 0, 2), ("add", 1, 0, 1)]), [[2, 4], [5, 1]])
        self.assertEqual(done(SEVEN, table, [("add", 1, 0, 1), ("scale", 0, 2)]), [[2, 4], [4, 6]])
        self.assertEqual(done(SEVEN, table, [("swap", 0, 1), ("scale", 0, 2)]), [[6, 1], [1, 2]])
        self.assertEqual(done(SEVEN, table, [("swap", 0, 1), ("swap", 0, 1)]), table)
        self.assertEqual(done(SEVEN, table, [("add", 0, 1, 1), ("add", 1, 0, 1)]), [[4, 6], [0, 3]])

    def test_none_and_those_that_change_nothing(self):
        for kind in kinds():
            for rows, columns in ((1, 1), (1, 7), (7, 1), (3, 2)):
                table = random_table(source(rows), kind, rows, columns)
                self.assertEqual(done(kind, table, []), table)
                self.assertEqual(done(kind, table, [("scale", rows - 1, kind.number(1))]), table)
                if rows > 1:
                    self.assertEqual(done(kind, table, [("add", 0, rows - 1, kind.number(0))]), table)

    def test_one_row(self):
        self.assertEqual(done(SEVEN, [[1, 2, 3]], [("scale", 0, 3), ("scale", 0, 2)]), [[6, 5, 4]])
        self.assertEqual(done(Fractions(), [[(1, 2)]], [("scale", 0, (2, 3))]), [[(1, 3)]])

    def test_random_turns(self):
        chance = source(11)
        for kind in kinds():
            for rows in range(1, 8):
                table = random_table(chance, kind, rows, chance.randint(1, 7))
                turns = random_turns(chance, kind, rows, 12, 60)
                self.assertEqual(done(kind, table, turns), done_by_hand(kind, table, turns))

    def test_three_hundred_turns(self):
        chance = source(12)
        for kind in kinds():
            table = random_table(chance, kind, 7, 7, 1)
            turns = random_turns(chance, kind, 7, 300)
            self.assertEqual(done(kind, table, turns), done_by_hand(kind, table, turns))


class Refused(unittest.TestCase):

    def wrong_turns(self, kind, rows):
        one, nought = kind.number(1), kind.number(0)
        for place in range(rows):
            yield ("scale", place, nought)
            yield ("swap", place, place)
            yield ("add", place, place, one)
            yield ("add", place, place, nought)
        for place in (-1, -rows, rows, rows + 1, 7, 8, WHOLES[-1], WHOLES[-2]):
            if not 0 <= place < rows:
                yield ("scale", place, one)
                yield ("scale", place, nought)
                yield ("swap", place, 0)
                yield ("swap", 0, place)
                yield ("swap", place, place)
                yield ("add", place, 0, one)
                yield ("add", 0, place, one)
                yield ("add", 0, place, nought)

    def test_what_is_no_turn_of_the_table(self):
        for kind in kinds():
            for rows in (1, 2, 3, 7):
                table = random_table(source(rows), kind, rows, 3)
                right = ("scale", rows - 1, kind.number(-1))
                for wrong in self.wrong_turns(kind, rows):
                    for turns in ([wrong], [right, wrong], [wrong, right], [right, right, wrong, right]):
                        before = copy.deepcopy((table, turns))
                        refused(self, NoTurn, done, kind, table, turns)
                        self.assertEqual((table, turns), before)

    def test_rows_and_not_columns_are_counted(self):
        table = [[1, 2, 3, 4, 5, 6, 0]]
        refused(self, NoTurn, done, SEVEN, table, [("swap", 0, 1)])
        refused(self, NoTurn, done, SEVEN, table, [("scale", 1, 1)])
        tall = [[1]] * 7
        self.assertEqual(done(SEVEN, tall, [("add", 6, 0, 5)]), [[1]] * 6 + [[6]])

    def test_no_turn_at_all(self):
        refused(self, NoTurn, done, SEVEN, TABLE, [("shift", 0, 1)])
        refused(self, NoTurn, done, SEVEN, TABLE, [("swap", 0, True)])


class Backward(unittest.TestCase):

    def check(self, kind, rows, turns, tables):
        back = backward(kind, turns)
        self.assertIs(type(back), list)
        self.assertEqual(len(back), len(turns))
        for table in tables:
            self.assertEqual(done(kind, done(kind, table, turns), back), table)
            self.assertEqual(done(kind, table, turns + back), table)
            self.assertEqual(done(kind, done(kind, table, back), turns), table)

    def test_written_out(self):
        self.assertEqual(backward(SEVEN, []), [])
        self.assertIn(backward(SEVEN, [("swap", 0, 1)]), ([("swap", 0, 1)], [("swap", 1, 0)]))
        self.assertEqual(backward(SEVEN, [("scale", 2, 3)]), [("scale", 2, 5)])
        self.assertEqual(backward(SEVEN, [("add", 0, 1, 3)]), [("add", 0, 1, 4)])
        self.assertEqual(backward(Fractions(), [("scale", 0, (-2, 3))]), [("scale", 0, (-3, 2))])
        self.assertEqual(backward(Fractions(), [("add", 0, 1, (2, 3))]), [("add", 0, 1, (-2, 3))])
        self.assertEqual(backward(SEVEN, [("add", 0, 1, 0), ("scale", 0, 2)]), [("scale", 0, 4), ("add", 0, 1, 0)])

    def test_leads_back_whatever_table_they_began_with(self):
        chance = source(13)
        for kind in kinds():
            for rows in range(1, 8):
                for count in (0, 1, 2, 9):
                    turns = random_turns(chance, kind, rows, count, 30)
                    tables = [random_table(chance, kind, rows, columns) for columns in (1, 4)]
                    self.check(kind, rows, turns, tables + [unit(kind, rows)])

    def test_all_small_tables_of_rests_by_two(self):
        turns = [("add", 0, 1, 1), ("swap", 0, 1), ("scale", 1, 1), ("add", 1, 0, 1), ("add", 0, 1, 0)]
        self.check(Rests(2), 2, turns, list(all_tables(2, 2, 3)))

    def test_three_hundred_turns(self):
        chance = source(14)
        for kind in kinds():
            self.check(kind, 7, random_turns(chance, kind, 7, 300), [unit(kind, 7)])


class AskersOwn(unittest.TestCase):

    def test_answers_are_new_and_what_was_handed_in_is_as_it_was(self):
        chance = source(2)
        for kind in kinds():
            table = random_table(chance, kind, 3, 2)
            turns = random_turns(chance, kind, 3, 6, 10)
            idle = [("add", 0, 1, kind.number(0)), ("scale", 0, kind.number(1))]
            for some in ([], [("swap", 0, 1)], [("swap", 0, 1), ("swap", 1, 0)], idle, turns):
                check_own(self, done, [kind, table, some])
                check_own(self, backward, [kind, some])


if __name__ == "__main__":
    unittest.main()
