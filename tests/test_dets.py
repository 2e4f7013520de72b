import copy
import itertools
import unittest

from samples import (
    all_tables, check_own, determinant_by_hand, kinds, low_table, noughts, random_number, random_table, refused, source,
    square_tables, undivided_kinds,
)

from turnframe.bare import without
from turnframe.dets import by_minors, by_steps, cofactors, minor
from turnframe.errors import NoFit
from turnframe.kinds import Fractions, Rests
from turnframe.steps import rank
from turnframe.tables import is_table, scaled, times_table, turned, unit

SEVEN = Rests(7)
WAYS = (by_steps, by_minors, without)


def part(table, rows, columns):
    return [[table[row][column] for column in columns] for row in rows]


class Determinants(unittest.TestCase):

    def check(self, kind, table):
        right = determinant_by_hand(kind, table)
        for way in WAYS:
            answer = way(kind, table)
            self.assertIs(kind.is_number(answer), True)
            self.assertEqual(answer, right, (way, table))

    def test_written_out(self):
        for way in WAYS:
            self.assertEqual(way(SEVEN, [[1, 2], [3, 4]]), 5)
            self.assertEqual(way(Fractions(), [[(1, 2), (1, 3)], [(1, 4), (1, 5)]]), (1, 60))
            self.assertEqual(way(Fractions(), [[(0, 1), (1, 1)], [(1, 1), (0, 1)]]), (-1, 1))
            self.assertEqual(way(Rests(2), [[0, 1], [1, 0]]), 1)
            self.assertEqual(way(SEVEN, [[2, 0, 0], [5, 3, 0], [1, 1, 4]]), 3)
            self.assertEqual(way(SEVEN, [[0, 1, 0], [0, 0, 1], [1, 0, 0]]), 1)

    def test_one_number(self):
        chance = source(161)
        for kind in kinds():
            for number in (kind.number(0), kind.number(1), kind.number(-1), random_number(chance, kind)):
                for way in WAYS:
                    self.assertEqual(way(kind, [[number]]), number)

    def test_every_order_of_the_units_rows(self):
        for kind in (Fractions(), Rests(2), Rests(3), Rests(999983)):
            for size in range(1, 6):
                for order in itertools.permutations(range(size)):
                    self.check(kind, [unit(kind, size)[place] for place in order])

    def test_many_sizes_and_ranks(self):
        chance = source(162)
        for kind in kinds():
            for table in square_tables(chance, kind, (1, 2, 3, 4, 5)):
                self.check(kind, table)

    def test_all_small_tables(self):
        for prime, size in ((2, 1), (2, 2), (2, 3), (3, 2), (5, 2)):
            for table in all_tables(prime, size, size):
                self.check(Rests(prime), table)

    def test_seven_rows(self):
        chance = source(163)
        for kind in kinds():
            self.check(kind, random_table(chance, kind, 7, 7, 1))
            for way in WAYS:
                self.assertEqual(way(kind, low_table(chance, kind, 7, 7, 6)), kind.number(0))
                self.assertEqual(way(kind, noughts(kind, 7, 7)), kind.number(0))

    def test_sixty_figures(self):
        chance, kind = source(164), Fractions()
        for size in (1, 2, 5):
            self.check(kind, random_table(chance, kind, size, size))
        table = random_table(chance, kind, 7, 7)
        self.assertEqual(by_steps(kind, table), by_minors(kind, table))
        self.assertEqual(by_steps(kind, table), without(kind, table))

    def test_two_rows_alike(self):
        chance = source(165)
        for kind in kinds():
            for size in (2, 3, 7):
                table = random_table(chance, kind, size, size)
                table[size - 1] = list(table[0])
                for way in WAYS:
                    self.assertEqual(way(kind, table), kind.number(0))
                    self.assertEqual(way(kind, turned(table)), kind.number(0))

    def test_not_square(self):
        for kind in kinds():
            for rows, columns in itertools.product(range(1, 8), repeat=2):
                if rows != columns:
                    for way in WAYS + (cofactors,):
                        refused(self, NoFit, way, kind, noughts(kind, rows, columns))

    def test_two_ways_divide_nowhere(self):
        chance = source(166)
        for kind in undivided_kinds():
            for size in (1, 2, 4):
                table = random_table(chance, kind, size, size)
                self.assertEqual(by_minors(kind, table), determinant_by_hand(kind, table))
                self.assertEqual(without(kind, table), determinant_by_hand(kind, table))
                cofactors(kind, table)
                minor(kind, table, [0], [size - 1])


class Minors(unittest.TestCase):

    def test_written_out(self):
        table = [[1, 2, 3, 4], [5, 6, 0, 1], [2, 2, 5, 3]]
        self.assertEqual(minor(SEVEN, table, [0], [3]), 4)
        self.assertEqual(minor(SEVEN, table, [0, 2], [1, 3]), 5)
        self.assertEqual(minor(SEVEN, table, [1, 2], [0, 2]), 4)
        self.assertEqual(minor(SEVEN, table, [0, 1, 2], [0, 1, 2]), determinant_by_hand(SEVEN, [
            [1, 2, 3], [5, 6, 0], [2, 2, 5]]))

    def test_every_choice(self):
        chance = source(171)
        for kind in (Fractions(), Rests(2), Rests(3), Rests(999983)):
            for rows, columns in ((1, 1), (1, 4), (4, 1), (3, 4), (4, 3), (4, 4)):
                table = random_table(chance, kind, rows, columns, 2)
                for count in range(1, min(rows, columns) + 1):
                    for some in itertools.combinations(range(rows), count):
                        for others in itertools.combinations(range(columns), count):
                            answer = minor(kind, table, list(some), list(others))
                            self.assertEqual(answer, determinant_by_hand(kind, part(table, some, others)))

    def test_some_of_seven(self):
        chance = source(172)
        for kind in kinds():
            table = random_table(chance, kind, 7, 7)
            for some, others in (([6], [0]), ([0, 6], [3, 5]), ([1, 2, 3, 6], [0, 2, 4, 6]), ([0, 2, 3], [4, 5, 6])):
                self.assertEqual(minor(kind, table, some, others), determinant_by_hand(kind, part(table, some, others)))
            places = list(range(7))
            self.assertEqual(minor(kind, table, places, places), by_steps(kind, table))


class Cofactors(unittest.TestCase):

    def check(self, kind, table):
        size, answer = len(table), cofactors(kind, table)
        self.assertIs(is_table(kind, answer), True)
        self.assertEqual((len(answer), len(answer[0])), (size, size))
        whole = scaled(kind, by_steps(kind, table), unit(kind, size))
        self.assertEqual(times_table(kind, table, answer), whole)
        self.assertEqual(times_table(kind, answer, table), whole)
        for i, j in itertools.product(range(size), repeat=2):
            if 1 < size < 5:
                rows = [place for place in range(size) if place != j]
                columns = [place for place in range(size) if place != i]
                right = determinant_by_hand(kind, part(table, rows, columns))
                self.assertEqual(answer[i][j], kind.times(kind.number((-1) ** (i + j)), right))

    def test_written_out(self):
        self.assertEqual(cofactors(SEVEN, [[1, 2], [3, 4]]), [[4, 5], [4, 1]])
        self.assertEqual(cofactors(SEVEN, [[1, 2, 0], [0, 1, 0], [0, 0, 1]]), [[1, 5, 0], [0, 1, 0], [0, 0, 1]])
        self.assertEqual(cofactors(Fractions(), [[(1, 2), (1, 3)], [(1, 4), (1, 5)]]),
                         [[(1, 5), (-1, 3)], [(-1, 4), (1, 2)]])

    def test_one_row(self):
        for kind in kinds():
            for number in (0, 1, -1, 5):
                self.assertEqual(cofactors(kind, [[kind.number(number)]]), [[kind.number(1)]])

    def test_many_sizes_and_ranks(self):
        chance = source(173)
        for kind in kinds():
            for table in square_tables(chance, kind):
                self.check(kind, table)
            self.check(kind, random_table(chance, kind, 3, 3))

    def test_ranks_of_cofactors(self):
        chance = source(174)
        for kind in (Fractions(), Rests(999983)):
            self.assertEqual(cofactors(kind, low_table(chance, kind, 5, 5, 3)), noughts(kind, 5, 5))
            self.assertLessEqual(rank(kind, cofactors(kind, low_table(chance, kind, 5, 5, 4))), 1)

    def test_all_small_tables(self):
        for prime, size in ((2, 2), (2, 3), (3, 2)):
            for table in all_tables(prime, size, size):
                self.check(Rests(prime), table)

    def test_sixty_figures(self):
        self.check(Fractions(), random_table(source(175), Fractions(), 7, 7))


class AskersOwn(unittest.TestCase):

    def test_answers_are_new_and_what_was_handed_in_is_as_it_was(self):
        chance = source(2)
        for kind in kinds():
            for table in (random_table(chance, kind, 3, 3), unit(kind, 3), noughts(kind, 2, 2), [[kind.number(1)]]):
                for call in WAYS + (cofactors,):
                    check_own(self, call, [kind, table])
                check_own(self, minor, [kind, table, [0], [len(table) - 1]])
                places = list(range(len(table)))
                check_own(self, minor, [kind, table, places, places])

    def test_a_refusal_changes_nothing(self):
        table = [[1, 2, 3], [4, 5, 6]]
        before = copy.deepcopy(table)
        for call in WAYS + (cofactors,):
            refused(self, NoFit, call, SEVEN, table)
        self.assertEqual(table, before)


if __name__ == "__main__":
    unittest.main()
