import copy
import unittest

from samples import (
    all_tables, check_own, kinds, low_table, noughts, product_by_hand, random_number, random_row, random_table,
    reduced_by_hand, refused, some_tables, source, square_tables,
)

from turnframe.errors import NoFit, NoInverse
from turnframe.kinds import Fractions, Rests
from turnframe.solving import inverse, solved
from turnframe.tables import image, is_table, times_table, turned, unit

SEVEN = Rests(7)


class Inverse(unittest.TestCase):

    def check(self, kind, table):
        size, leads = len(table), reduced_by_hand(kind, table)[1]
        if len(leads) < size:
            error = refused(self, NoInverse, inverse, kind, table)
            self.assertEqual(error.rank, len(leads))
            self.assertIs(type(error.rank), int)
            return
        answer = inverse(kind, table)
        self.assertIs(is_table(kind, answer), True)
        self.assertEqual(times_table(kind, table, answer), unit(kind, size))
        self.assertEqual(times_table(kind, answer, table), unit(kind, size))

    def test_written_out(self):
        self.assertEqual(inverse(SEVEN, [[3]]), [[5]])
        self.assertEqual(inverse(Fractions(), [[(-2, 3)]]), [[(-3, 2)]])
        table = [[(1, 1), (2, 1)], [(3, 1), (4, 1)]]
        self.assertEqual(inverse(Fractions(), table), [[(-2, 1), (1, 1)], [(3, 2), (-1, 2)]])
        self.assertEqual(inverse(Rests(2), [[1, 1], [0, 1]]), [[1, 1], [0, 1]])
        self.assertEqual(inverse(Rests(5), [[0, 2], [1, 0]]), [[0, 1], [3, 0]])

    def test_ranks_in_refusals(self):
        self.assertEqual(refused(self, NoInverse, inverse, SEVEN, [[0]]).rank, 0)
        self.assertEqual(refused(self, NoInverse, inverse, SEVEN, [[1, 2], [2, 4]]).rank, 1)
        self.assertEqual(refused(self, NoInverse, inverse, SEVEN, [[0, 1, 0], [0, 0, 1], [0, 0, 0]]).rank, 2)
        self.assertEqual(refused(self, NoInverse, inverse, Rests(2), [[1, 1], [1, 1]]).rank, 1)

    def test_many_sizes_and_ranks(self):
        chance = source(141)
        for kind in kinds():
            for table in square_tables(chance, kind):
                self.check(kind, table)
            self.check(kind, unit(kind, 7))
            self.check(kind, unit(kind, 7)[::-1])

    def test_all_small_tables(self):
        for prime, size in ((2, 1), (2, 2), (2, 3), (3, 2), (5, 2), (5, 1)):
            for table in all_tables(prime, size, size):
                self.check(Rests(prime), table)

    def test_sixty_figures(self):
        chance = source(142)
        for size in (1, 2, 7):
            self.check(Fractions(), random_table(chance, Fractions(), size, size))

    def test_not_square(self):
        for kind in kinds():
            for rows in range(1, 8):
                for columns in range(1, 8):
                    if rows != columns:
                        refused(self, NoFit, inverse, kind, noughts(kind, rows, columns))
                        refused(self, NoFit, inverse, kind, unit(kind, 7)[:rows] if columns == 7 else [
                            row[:columns] for row in unit(kind, 7)[:rows]])


class Solved(unittest.TestCase):

    def check(self, kind, table, column):
        answer = solved(kind, table, column)
        self.assertIs(type(answer), tuple)
        self.assertEqual((len(answer), type(answer[1])), (2, list))
        for each in answer[1]:
            self.assertIs(kind.is_number(each), True)
        wider = [row + [each] for row, each in zip(table, column)]
        leads = reduced_by_hand(kind, wider)[1]
        if leads and leads[-1] == len(table[0]):
            self.check_never(kind, table, column, answer)
        else:
            self.check_found(kind, table, column, leads, answer)
        return answer[0]

    def check_found(self, kind, table, column, leads, answer):
        self.assertEqual(answer[0], "found")
        self.assertEqual(len(answer[1]), len(table[0]))
        for row, number in zip(table, column):
            self.assertEqual(product_by_hand(kind, row, answer[1]), number)
        for place, each in enumerate(answer[1]):
            if place not in leads:
                self.assertEqual(each, kind.number(0))

    def check_never(self, kind, table, column, answer):
        self.assertEqual(answer[0], "never")
        self.assertEqual(len(answer[1]), len(table))
        for numbers in turned(table):
            self.assertEqual(product_by_hand(kind, answer[1], numbers), kind.number(0))
        self.assertEqual(product_by_hand(kind, answer[1], column), kind.number(1))

    def test_written_out(self):
        self.assertEqual(solved(SEVEN, [[1, 2], [3, 4]], [5, 6]), ("found", [3, 1]))
        self.assertEqual(solved(SEVEN, [[0, 2, 4]], [6]), ("found", [0, 3, 0]))
        self.assertEqual(solved(Fractions(), [[(2, 1)], [(4, 1)]], [(1, 1), (2, 1)]), ("found", [(1, 2)]))
        self.assertEqual(solved(SEVEN, [[0]], [3]), ("never", [5]))
        self.assertEqual(solved(SEVEN, [[0]], [0]), ("found", [0]))
        self.assertEqual(solved(Rests(2), [[1], [0]], [0, 1]), ("never", [0, 1]))

    def test_many_sizes_and_ranks(self):
        chance = source(151)
        for kind in kinds():
            told = []
            for table in some_tables(chance, kind):
                told.append(self.check(kind, table, random_row(chance, kind, len(table), 1)))
                told.append(self.check(kind, table, [kind.number(0)] * len(table)))
                reached = image(kind, table, random_row(chance, kind, len(table[0]), 1))
                self.assertEqual(self.check(kind, table, reached), "found")
            self.assertEqual(set(told), {"found", "never"})

    def test_all_small_tables(self):
        for prime, rows, columns in ((2, 2, 2), (2, 3, 2), (2, 2, 3), (2, 1, 3), (2, 3, 1), (3, 2, 1), (3, 1, 2)):
            for wider in all_tables(prime, rows, columns + 1):
                self.check(Rests(prime), [row[:-1] for row in wider], [row[-1] for row in wider])

    def test_sixty_figures(self):
        chance, kind = source(152), Fractions()
        for rows, columns in ((7, 7), (7, 3), (3, 7), (1, 1)):
            self.check(kind, random_table(chance, kind, rows, columns), random_row(chance, kind, rows))
            self.check(kind, low_table(chance, kind, rows, columns, 1, 10), random_row(chance, kind, rows))

    def test_columns_that_do_not_fit(self):
        for kind in kinds():
            for rows in range(1, 8):
                for columns in (1, 3, 7):
                    for count in range(9):
                        if count != rows:
                            column = [kind.number(0)] * count
                            refused(self, NoFit, solved, kind, noughts(kind, rows, columns), column)


class AskersOwn(unittest.TestCase):

    def test_answers_are_new_and_what_was_handed_in_is_as_it_was(self):
        chance = source(2)
        for kind in kinds():
            column = [random_number(chance, kind) for place in range(3)]
            for table in (unit(kind, 3), unit(kind, 3)[::-1]):
                check_own(self, inverse, [kind, table])
            for table in (unit(kind, 3), low_table(chance, kind, 3, 3, 1), noughts(kind, 3, 2)):
                check_own(self, solved, [kind, table, column])
                check_own(self, solved, [kind, table, [kind.number(0)] * 3])
                check_own(self, solved, [kind, table, table[0] if len(table[0]) == 3 else column])

    def test_a_refusal_changes_nothing(self):
        table, column = [[1, 2], [2, 4]], [1, 2, 3]
        before = copy.deepcopy((table, column))
        refused(self, NoInverse, inverse, SEVEN, table)
        refused(self, NoFit, inverse, SEVEN, table[:1])
        refused(self, NoFit, solved, SEVEN, table, column)
        self.assertEqual((table, column), before)


if __name__ == "__main__":
    unittest.main()
