"""Determinants of tables of polynomials, without division and by minors; test_dets has those of other tables."""

import copy
import unittest

from samples import (
    check_own, determinant_of_polys, kinds, noughts, random_poly, random_poly_table, refused, source, undivided_kinds,
)

from turnframe.bare import without
from turnframe.dets import by_minors
from turnframe.errors import NoFit
from turnframe.kinds import Fractions, Rests
from turnframe.polys import Polys
from turnframe.tables import turned, unit

SEVEN = Rests(7)


class OfPolynomials(unittest.TestCase):

    def test_written_out(self):
        polys = Polys(SEVEN)
        for way in (without, by_minors):
            self.assertEqual(way(polys, [[[0, 1], [1]], [[1], [0, 1]]]), [6, 0, 1])
            self.assertEqual(way(polys, [[[0, 1], [0, 0, 1]], [[1], [0, 1]]]), [])
            self.assertEqual(way(polys, [[[2, 3]]]), [2, 3])
            self.assertEqual(way(polys, [[[]]]), [])
            self.assertEqual(way(polys, [[[], [2]], [[0, 1], []]]), [0, 5])
        self.assertEqual(without(Polys(Rests(2)), [[[1, 1], [1]], [[1], [1, 1]]]), [0, 0, 1])

    def test_both_ways_agree_with_the_sum_over_all_orders(self):
        chance = source(1606)
        for kind in kinds():
            for size in (1, 2, 3, 4):
                table = random_poly_table(chance, kind, size, size, 4)
                right = determinant_of_polys(kind, table)
                for way in (without, by_minors):
                    answer = way(Polys(kind), table)
                    self.assertIs(Polys(kind).is_number(answer), True)
                    self.assertEqual(answer, right)

    def test_seven_rows_and_seven_numbers(self):
        chance = source(1607)
        for kind in kinds():
            table = [[random_poly(chance, kind, 7) for column in range(7)] for row in range(7)]
            answer = without(Polys(kind), table)
            self.assertEqual(answer, by_minors(Polys(kind), table))
            self.assertLessEqual(len(answer), 43)

    def test_sixty_figures(self):
        chance, kind = source(1608), Fractions()
        table = [[random_poly(chance, kind, 4, 60) for column in range(3)] for row in range(3)]
        answer = without(Polys(kind), table)
        self.assertEqual(answer, determinant_of_polys(kind, table))
        self.assertEqual(answer, by_minors(Polys(kind), table))

    def test_two_rows_alike(self):
        chance = source(1609)
        for kind in kinds():
            for size in (2, 3, 7):
                table = random_poly_table(chance, kind, size, size, 3)
                table[size - 1] = copy.deepcopy(table[0])
                for way in (without, by_minors):
                    self.assertEqual(way(Polys(kind), table), [])
                    self.assertEqual(way(Polys(kind), turned(table)), [])


    def test_neither_way_divides(self):
        chance = source(1605)
        for kind in undivided_kinds():
            for size in (1, 2, 4):
                table = random_poly_table(chance, kind, size, size, 3)
                right = determinant_of_polys(kind, table)
                self.assertEqual(without(Polys(kind), table), right)
                self.assertEqual(by_minors(Polys(kind), table), right)

    def test_not_square(self):
        for under in (Fractions(), Rests(2), SEVEN):
            for rows, columns in ((1, 2), (2, 1), (3, 7), (7, 6)):
                for way in (without, by_minors):
                    refused(self, NoFit, way, Polys(under), noughts(Polys(under), rows, columns))


class AskersOwn(unittest.TestCase):

    def test_answers_are_new_and_what_was_handed_in_is_as_it_was(self):
        chance = source(2)
        for kind in kinds():
            for size in (1, 2, 3):
                table = [[random_poly(chance, kind, 2) for column in range(size)] for row in range(size)]
                for way in (without, by_minors):
                    check_own(self, way, [Polys(kind), table])
                    check_own(self, way, [Polys(kind), unit(Polys(kind), size)])

    def test_a_refusal_changes_nothing(self):
        table = [[[1], [0, 1]]]
        for way in (without, by_minors):
            refused(self, NoFit, way, Polys(SEVEN), table)
        self.assertEqual(table, [[[1], [0, 1]]])


if __name__ == "__main__":
    unittest.main()
