import copy
import unittest

from samples import (
    ODDITIES, SIXTY, check_own, kinds, random_number, random_row, random_table, refused, source, told, worth,
)

from turnframe.errors import NoFit
from turnframe.kinds import Fractions, Kind, Rests
from turnframe.tables import image, is_square, is_table, plus_table, scaled, times_table, turned, unit

SEVEN = Rests(7)
SIZES = range(1, 8)


class ListNumbers(Kind):
    """Rests by 7, each alone in a list: stands for a kind whose numbers are lists."""

    def number(self, top, bottom=1):
        return [SEVEN.number(top, bottom)]

    def plus(self, one, other):
        return [SEVEN.plus(one[0], other[0])]

    def times(self, one, other):
        return [SEVEN.times(one[0], other[0])]

    def is_number(self, thing):
        return isinstance(thing, list) and len(thing) == 1 and SEVEN.is_number(thing[0])


def wrapped(table):
    return [[[each] for each in row] for row in table]


def pairs(table):
    """A table of fractions of a table of whole numbers."""
    return [[(each, 1) for each in row] for row in table]


class WhatIsATable(unittest.TestCase):

    def test_every_size_from_one_to_seven(self):
        for kind in kinds():
            for rows in range(10):
                for columns in range(10):
                    table = [[kind.number(1)] * columns for row in range(rows)]
                    fits = 1 <= rows <= 7 and 1 <= columns <= 7
                    self.assertIs(is_table(kind, table), fits, (rows, columns))

    def test_rows_of_unlike_lengths(self):
        for table in ([[1, 2], [3]], [[1], [2, 3]], [[1], [2], []], [[], [1]], [[1, 2], [3, 4], [5, 6, 0]]):
            self.assertIs(is_table(SEVEN, table), False, table)
            self.assertIs(is_table(Fractions(), [[(each, 1) for each in row] for row in table]), False, table)

    def test_only_lists_of_lists(self):
        others = (((1, 2), (3, 4)), [(1, 2), (3, 4)], ([1, 2], [3, 4]), [[1, 2], (3, 4)], [(1, 2), [3, 4]],
                  {0: [1], 1: [2]}, [{0: 1}], ["12"], "12", [[1], None], [1, 2], [[[1]]], [[[1, 2]]])
        for thing in others:
            self.assertIs(is_table(SEVEN, thing), False, repr(thing))
            self.assertIs(is_table(Fractions(), thing), False, repr(thing))
        self.assertIs(is_table(SEVEN, [[1, 2], [3, 4]]), True)

    def test_a_list_within_itself(self):
        thing = []
        thing.append(thing)
        self.assertIs(is_table(SEVEN, thing), False)

    def test_oddities(self):
        for kind in kinds():
            one = kind.number(1)
            for thing in ODDITIES:
                self.assertIs(is_table(kind, thing), False, repr(thing))
                self.assertIs(is_table(kind, [[thing]]), False, repr(thing))
                self.assertIs(is_table(kind, [[one, one], [one, thing]]), False, repr(thing))
                if not isinstance(thing, list):
                    self.assertIs(is_table(kind, [thing]), False, repr(thing))
                    self.assertIs(is_table(kind, [[one], thing]), False, repr(thing))

    def test_numbers_of_the_kind_alone(self):
        for each in ((2, 4), (0, 2), (1, 0), (1, -1), (True, 1), (1, True), [1, 2], 1, True):
            self.assertIs(is_table(Fractions(), [[(1, 2), each]]), False, each)
        for each in (7, -1, True, False, (1, 1), SIXTY):
            self.assertIs(is_table(SEVEN, [[0, 1], [each, 6]]), False, each)
        self.assertIs(is_table(Fractions(), [[(SIXTY, SIXTY - 1), (-SIXTY, 2)]]), True)
        self.assertIs(is_table(SEVEN, [[0, 1, 6]]), True)

    def test_square(self):
        for rows in SIZES:
            for columns in SIZES:
                table = [[0] * columns for row in range(rows)]
                self.assertIs(is_square(table), rows == columns)


class Units(unittest.TestCase):

    def test_written_out(self):
        self.assertEqual(unit(SEVEN, 3), [[1, 0, 0], [0, 1, 0], [0, 0, 1]])
        self.assertEqual(unit(Fractions(), 2), [[(1, 1), (0, 1)], [(0, 1), (1, 1)]])
        self.assertEqual(unit(Rests(2), 1), [[1]])

    def test_one_where_row_and_column_are_the_same(self):
        for kind in kinds():
            for size in SIZES:
                table = unit(kind, size)
                self.assertTrue(is_table(kind, table))
                self.assertEqual((len(table), len(table[0])), (size, size))
                for row in range(size):
                    for column in range(size):
                        self.assertEqual(table[row][column], kind.number(1 if row == column else 0))


class Reckoning(unittest.TestCase):

    def test_sums_written_out(self):
        self.assertEqual(plus_table(SEVEN, [[1, 2, 3], [4, 5, 6]], [[6, 5, 4], [4, 4, 4]]), [[0, 0, 0], [1, 2, 3]])
        self.assertEqual(plus_table(Fractions(), [[(1, 2)], [(1, 3)]], [[(1, 2)], [(-1, 2)]]), [[(1, 1)], [(-1, 6)]])

    def test_products_written_out(self):
        A = [[1, 2], [3, 4]]
        B = [[0, 1], [1, 1]]
        self.assertEqual(times_table(Fractions(), pairs(A), pairs(B)), pairs([[2, 3], [4, 7]]))
        self.assertEqual(times_table(Fractions(), pairs(B), pairs(A)), pairs([[3, 4], [4, 6]]))
        self.assertEqual(times_table(SEVEN, A, B), [[2, 3], [4, 0]])
        self.assertEqual(times_table(SEVEN, [[1, 2, 3]], [[4], [5], [6]]), [[4]])
        self.assertEqual(times_table(SEVEN, [[2], [3]], [[4, 5, 6]]), [[1, 3, 5], [5, 1, 4]])

    def test_images_written_out(self):
        self.assertEqual(image(SEVEN, [[1, 2, 3], [4, 5, 6]], [1, 0, 2]), [0, 2])
        self.assertEqual(image(Fractions(), [[(1, 2), (1, 3)]], [(2, 1), (-3, 1)]), [(0, 1)])
        self.assertEqual(image(Rests(2), [[1], [0], [1]], [1]), [1, 0, 1])

    def test_scaled_and_turned_written_out(self):
        self.assertEqual(scaled(SEVEN, 3, [[1, 2, 3], [4, 5, 0]]), [[3, 6, 2], [5, 1, 0]])
        self.assertEqual(scaled(Fractions(), (-1, 2), [[(4, 3)], [(0, 1)]]), [[(-2, 3)], [(0, 1)]])
        self.assertEqual(turned([[1, 2, 3], [4, 5, 6]]), [[1, 4], [2, 5], [3, 6]])
        self.assertEqual(turned([[1], [2]]), [[1, 2]])
        self.assertEqual(turned([[(1, 2)]]), [[(1, 2)]])

    def check_product(self, kind, A, B, answer):
        self.assertTrue(is_table(kind, answer))
        self.assertEqual((len(answer), len(answer[0])), (len(A), len(B[0])))
        for i, row in enumerate(answer):
            for j, each in enumerate(row):
                total = sum([worth(kind, A[i][k]) * worth(kind, B[k][j]) for k in range(len(B))])
                self.assertEqual(each, told(kind, total))

    def check_one_by_one(self, kind, A, B, factor):
        sums, multiples, across = plus_table(kind, A, B), scaled(kind, factor, A), turned(A)
        for answer in (sums, multiples, across):
            self.assertTrue(is_table(kind, answer))
        self.assertEqual((len(sums), len(sums[0])), (len(A), len(A[0])))
        self.assertEqual((len(multiples), len(multiples[0])), (len(A), len(A[0])))
        self.assertEqual((len(across), len(across[0])), (len(A[0]), len(A)))
        for i, row in enumerate(A):
            for j, each in enumerate(row):
                self.assertEqual(sums[i][j], told(kind, worth(kind, each) + worth(kind, B[i][j])))
                self.assertEqual(multiples[i][j], told(kind, worth(kind, factor) * worth(kind, each)))
                self.assertEqual(across[j][i], each)

    def test_random_tables_up_to_sixty_figures(self):
        chance = source(10)
        for kind in kinds():
            for turn in range(6):
                rows, middle, columns = [chance.choice((1, 2, 3, 5, 7)) for each in range(3)]
                A = random_table(chance, kind, rows, middle)
                B = random_table(chance, kind, middle, columns)
                answer = times_table(kind, A, B)
                self.check_product(kind, A, B, answer)
                self.assertEqual(turned(answer), times_table(kind, turned(B), turned(A)))
                self.assertEqual(turned([image(kind, A, column) for column in turned(B)]), answer)
                self.check_one_by_one(kind, A, random_table(chance, kind, rows, middle), random_number(chance, kind))

    def test_seven_rows_and_columns(self):
        chance = source(1010)
        for kind in kinds():
            A, B = random_table(chance, kind, 7, 7), random_table(chance, kind, 7, 7)
            self.check_product(kind, A, B, times_table(kind, A, B))
            self.check_one_by_one(kind, A, B, random_number(chance, kind))

    def test_the_unit_changes_nothing(self):
        chance = source(11)
        for kind in kinds():
            for rows in SIZES:
                for columns in (1, 4, 7):
                    table = random_table(chance, kind, rows, columns, 6)
                    self.assertEqual(times_table(kind, unit(kind, rows), table), table)
                    self.assertEqual(times_table(kind, table, unit(kind, columns)), table)
                    self.assertEqual(scaled(kind, kind.number(1), table), table)


class Sizes(unittest.TestCase):

    def test_sizes_that_do_not_fit_are_refused(self):
        for kind in (Fractions(), SEVEN, Rests(999983)):
            for rows in SIZES:
                for columns in SIZES:
                    for others in SIZES:
                        self.check_sizes(kind, rows, columns, others)

    def check_sizes(self, kind, rows, columns, others):
        one = kind.number(1)
        table = [[one] * columns for row in range(rows)]
        if others != columns:
            refused(self, NoFit, plus_table, kind, table, [[one] * others for row in range(rows)])
            refused(self, NoFit, times_table, kind, table, [[one] * rows for row in range(others)])
            refused(self, NoFit, image, kind, table, [one] * others)
        else:
            self.assertEqual(image(kind, table, [one] * others), [kind.number(columns)] * rows)
            self.assertEqual(times_table(kind, table, [[one]] * columns), [[kind.number(columns)]] * rows)
        if others != rows:
            refused(self, NoFit, plus_table, kind, table, [[one] * columns for row in range(others)])

    def test_a_table_and_itself_turned(self):
        A, B = [[1, 2]], [[1], [2]]
        refused(self, NoFit, plus_table, SEVEN, A, B)
        refused(self, NoFit, times_table, SEVEN, A, A)
        refused(self, NoFit, times_table, SEVEN, B, B)
        self.assertEqual(times_table(SEVEN, A, B), [[5]])
        self.assertEqual(plus_table(SEVEN, A, A), [[2, 4]])

    def test_columns_of_other_lengths(self):
        refused(self, NoFit, image, SEVEN, [[1, 2]], [])
        refused(self, NoFit, image, SEVEN, [[1, 2]], [1])
        refused(self, NoFit, image, SEVEN, [[1], [2]], [1, 2])
        refused(self, NoFit, image, SEVEN, [[1, 2]], [1] * 8)
        self.assertEqual(image(SEVEN, [[1, 2]], [3, 4]), [4])


class AskersOwn(unittest.TestCase):

    def calls(self, kind):
        chance = source(2)
        A, B = random_table(chance, kind, 3, 3), random_table(chance, kind, 3, 3)
        number, column = random_number(chance, kind), random_row(chance, kind, 3)
        nought = [[kind.number(0)] * 3 for row in range(3)]
        return [
            (unit, [kind, 3]), (turned, [A]), (scaled, [kind, number, A]), (scaled, [kind, kind.number(1), A]),
            (plus_table, [kind, A, B]), (plus_table, [kind, A, A]), (plus_table, [kind, A, nought]),
            (times_table, [kind, A, B]), (times_table, [kind, A, A]), (times_table, [kind, unit(kind, 3), A]),
            (image, [kind, A, column]), (image, [kind, unit(kind, 3), column]), (image, [kind, A, A[0]]),
        ]

    def test_answers_are_new_and_what_was_handed_in_is_as_it_was(self):
        for kind in kinds():
            for call, arguments in self.calls(kind):
                check_own(self, call, arguments)

    def test_asking_what_is_a_table_changes_nothing(self):
        for table in ([[1, 2], [3, 4]], [[1, 2], [3]], [[True]], []):
            before = copy.deepcopy(table)
            is_table(SEVEN, table)
            self.assertEqual(table, before)
        table = [[1, 2], [3, 4]]
        is_square(table)
        self.assertEqual(table, [[1, 2], [3, 4]])

    def test_a_refusal_changes_nothing(self):
        A, B, column = [[1, 2]], [[1, 2, 3]], [1, 2, 3]
        refused(self, NoFit, plus_table, SEVEN, A, B)
        refused(self, NoFit, times_table, SEVEN, A, B)
        refused(self, NoFit, image, SEVEN, A, column)
        self.assertEqual((A, B, column), ([[1, 2]], [[1, 2, 3]], [1, 2, 3]))


class NumbersThatAreLists(unittest.TestCase):
    """The tables ask their kind for everything, so they serve one whose numbers are lists."""

    def test_same_as_without_the_lists(self):
        kind = ListNumbers()
        A, B = [[1, 2], [3, 4]], [[5, 6], [0, 1]]
        self.assertEqual(unit(kind, 2), wrapped(unit(SEVEN, 2)))
        self.assertEqual(turned(wrapped(A)), wrapped(turned(A)))
        self.assertEqual(scaled(kind, [3], wrapped(A)), wrapped(scaled(SEVEN, 3, A)))
        self.assertEqual(plus_table(kind, wrapped(A), wrapped(B)), wrapped(plus_table(SEVEN, A, B)))
        self.assertEqual(times_table(kind, wrapped(A), wrapped(B)), wrapped(times_table(SEVEN, A, B)))
        self.assertIs(is_table(kind, wrapped(A)), True)
        self.assertIs(is_table(kind, A), False)
        self.assertIs(is_square(wrapped(A)), True)

    def test_no_list_stands_twice_in_a_unit(self):
        table = unit(ListNumbers(), 7)
        self.assertEqual(len({id(each) for row in table for each in row}), 49)


if __name__ == "__main__":
    unittest.main()
