"""Tables whose numbers are polynomials."""

import copy
import itertools
import unittest

from samples import (
    check_own, determinant_of_polys, kinds, noughts, product_poly_by_hand, random_poly, random_poly_table, refused,
    source, sum_poly_by_hand,
)

from turnframe.bare import without
from turnframe.dets import by_minors, cofactors, minor
from turnframe.errors import NoFit
from turnframe.kinds import Fractions, Rests
from turnframe.polys import Polys
from turnframe.tables import image, is_square, is_table, plus_table, scaled, times_table, turned, unit

SEVEN = Rests(7)
POLYS = Polys(SEVEN)


def sum_of_products_by_hand(kind, some, others):
    total = []
    for one, other in zip(some, others):
        total = sum_poly_by_hand(kind, total, product_poly_by_hand(kind, one, other))
    return total


class WhatIsATable(unittest.TestCase):

    def test_of_polynomials(self):
        for table in ([[[]]], [[[1], []], [[0, 1], [6]]], [[[]] * 7] * 7, [[[0, 0, 1]], [[]]]):
            self.assertIs(is_table(POLYS, table), True, table)
        others = ([], [[]], [], [[1]], [[[0]]], [[[1, 0]]], [[[7]]], [[[1]], []], [[[1]], [[1], [1]]], [[[]] * 8],
                  [[[]]] * 8, [[(1,)]], [([1],)], [[[[1]]]], [[[True]]], None, 1, "1")
        for thing in others:
            self.assertIs(is_table(POLYS, thing), False, repr(thing))
        self.assertIs(is_table(SEVEN, [[[1]]]), False)
        self.assertIs(is_table(Polys(Fractions()), [[[(1, 2)], []]]), True)
        self.assertIs(is_table(Polys(Fractions()), [[[(2, 4)], []]]), False)

    def test_square(self):
        for rows, columns in itertools.product(range(1, 8), repeat=2):
            self.assertIs(is_square(noughts(POLYS, rows, columns)), rows == columns)


class Reckoning(unittest.TestCase):

    def test_written_out(self):
        A, B = [[[1], [0, 1]], [[], [1, 1]]], [[[0, 1], []], [[1], [6, 6]]]
        self.assertEqual(unit(POLYS, 2), [[[1], []], [[], [1]]])
        self.assertEqual(turned(A), [[[1], []], [[0, 1], [1, 1]]])
        self.assertEqual(scaled(POLYS, [0, 2], A), [[[0, 2], [0, 0, 2]], [[], [0, 2, 2]]])
        self.assertEqual(plus_table(POLYS, A, B), [[[1, 1], [0, 1]], [[1], []]])
        self.assertEqual(times_table(POLYS, A, B), [[[0, 2], [0, 6, 6]], [[1, 1], [6, 5, 6]]])
        self.assertEqual(image(POLYS, A, [[1], [0, 1]]), [[1, 0, 1], [0, 1, 1]])

    def test_random_tables(self):
        chance = source(1901)
        for kind in kinds():
            polys = Polys(kind)
            for rows, middle, columns in ((1, 1, 1), (2, 3, 2), (3, 1, 4), (1, 5, 1)):
                A = random_poly_table(chance, kind, rows, middle, 4)
                B = random_poly_table(chance, kind, middle, columns, 4)
                C = random_poly_table(chance, kind, rows, middle, 4)
                factor = random_poly(chance, kind, 3)
                answers = (times_table(polys, A, B), plus_table(polys, A, C), scaled(polys, factor, A), turned(A))
                for answer in answers:
                    self.assertIs(is_table(polys, answer), True)
                self.assertEqual(answers[0], [[sum_of_products_by_hand(kind, row, column) for column in turned(B)]
                                              for row in A])
                self.assertEqual(answers[1], [[sum_poly_by_hand(kind, one, other) for one, other in zip(row, others)]
                                              for row, others in zip(A, C)])
                self.assertEqual(answers[2], [[product_poly_by_hand(kind, factor, each) for each in row] for row in A])
                self.assertEqual(answers[3], [[row[place] for row in A] for place in range(middle)])
                for place, column in enumerate(turned(B)):
                    self.assertEqual(image(polys, A, column), [row[place] for row in answers[0]])
                self.assertEqual(times_table(polys, A, unit(polys, middle)), A)

    def test_seven_rows_of_seven_numbers(self):
        chance = source(1902)
        for kind in (Fractions(), Rests(2), Rests(999983)):
            A, B = ([[random_poly(chance, kind, 7) for column in range(7)] for row in range(7)] for each in range(2))
            answer = times_table(Polys(kind), A, B)
            self.assertEqual(answer[3][5], sum_of_products_by_hand(kind, A[3], [row[5] for row in B]))
            self.assertEqual(turned(answer), times_table(Polys(kind), turned(B), turned(A)))

    def test_sizes_that_do_not_fit(self):
        for under in (Fractions(), Rests(2), SEVEN):
            kind = Polys(under)
            refused(self, NoFit, plus_table, kind, noughts(kind, 2, 3), noughts(kind, 3, 2))
            refused(self, NoFit, plus_table, kind, noughts(kind, 2, 3), noughts(kind, 2, 2))
            refused(self, NoFit, times_table, kind, noughts(kind, 2, 3), noughts(kind, 2, 3))
            refused(self, NoFit, image, kind, noughts(kind, 2, 3), [[], []])
            for call in (by_minors, cofactors, without):
                refused(self, NoFit, call, kind, noughts(kind, 2, 3))
                refused(self, NoFit, call, kind, noughts(kind, 3, 2))


class Minors(unittest.TestCase):

    def test_written_out(self):
        table = [[[0, 1], [1], [2]], [[], [0, 1], [1, 1]]]
        self.assertEqual(minor(POLYS, table, [0], [0]), [0, 1])
        self.assertEqual(minor(POLYS, table, [1], [0]), [])
        self.assertEqual(minor(POLYS, table, [0, 1], [0, 1]), [0, 0, 1])
        self.assertEqual(minor(POLYS, table, [0, 1], [1, 2]), [1, 6])
        self.assertEqual(cofactors(POLYS, [[[0, 1], [1]], [[2], [3, 1]]]), [[[3, 1], [6]], [[5], [0, 1]]])
        self.assertEqual(cofactors(POLYS, [[[0, 1]]]), [[[1]]])
        self.assertEqual(cofactors(POLYS, [[[]]]), [[[1]]])

    def test_every_choice(self):
        chance = source(1903)
        for kind in (Fractions(), Rests(2), Rests(999983)):
            table = random_poly_table(chance, kind, 3, 4, 3)
            for count in (1, 2, 3):
                for rows in itertools.combinations(range(3), count):
                    for columns in itertools.combinations(range(4), count):
                        part = [[table[row][column] for column in columns] for row in rows]
                        answer = minor(Polys(kind), table, list(rows), list(columns))
                        self.assertEqual(answer, determinant_of_polys(kind, part))

    def test_cofactors(self):
        chance = source(1904)
        for kind in kinds():
            polys = Polys(kind)
            for size in (1, 2, 3, 4):
                table = random_poly_table(chance, kind, size, size, 3)
                answer = cofactors(polys, table)
                self.assertIs(is_table(polys, answer), True)
                whole = scaled(polys, determinant_of_polys(kind, table), unit(polys, size))
                self.assertEqual(times_table(polys, table, answer), whole)
                self.assertEqual(times_table(polys, answer, table), whole)

    def test_cofactors_of_seven_rows(self):
        chance = source(1905)
        for kind in (Fractions(), Rests(2), Rests(999983)):
            polys = Polys(kind)
            table = random_poly_table(chance, kind, 7, 7, 3)
            whole = scaled(polys, without(polys, table), unit(polys, 7))
            self.assertEqual(times_table(polys, table, cofactors(polys, table)), whole)


class AskersOwn(unittest.TestCase):

    def calls(self, kind):
        chance, polys = source(2), Polys(kind)
        A, B = ([[random_poly(chance, kind, 2) for column in range(3)] for row in range(3)] for each in range(2))
        column = [random_poly(chance, kind, 2) for row in range(3)]
        nought, one, units = noughts(polys, 3, 3), polys.number(1), unit(polys, 3)
        return [
            (unit, [polys, 3]), (scaled, [polys, column[0], A]), (scaled, [polys, one, A]), (scaled, [polys, [], A]),
            (plus_table, [polys, A, B]), (plus_table, [polys, A, nought]), (plus_table, [polys, nought, A]),
            (times_table, [polys, A, B]), (times_table, [polys, units, A]), (times_table, [polys, A, units]),
            (image, [polys, A, column]), (image, [polys, units, column]), (cofactors, [polys, A]),
            (cofactors, [polys, [[A[0][0]]]]), (cofactors, [polys, units]),
            (minor, [polys, A, [0], [2]]), (minor, [polys, A, [0, 2], [1, 2]]), (by_minors, [polys, A]),
        ]

    def test_answers_are_new_and_what_was_handed_in_is_as_it_was(self):
        for kind in kinds():
            for call, arguments in self.calls(kind):
                check_own(self, call, arguments)

    def test_a_turned_table_has_new_rows(self):
        table = [[[1], [0, 1]], [[], [2]]]
        before = copy.deepcopy(table)
        answer = turned(table)
        self.assertEqual(table, before)
        self.assertFalse([row for row in answer if id(row) in [id(each) for each in table]])
        answer[0].append([5])
        answer.clear()
        self.assertEqual(table, before)


if __name__ == "__main__":
    unittest.main()
