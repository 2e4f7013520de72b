import copy
import unittest

from samples import (
    all_tables, check_own, kinds, low_table, noughts, product_by_hand, random_table, reduced_by_hand, some_tables,
    source,
)

from turnframe.kinds import Fractions, Rests
from turnframe.steps import kernel, rank, steps
from turnframe.tables import is_table, unit
from turnframe.turns import backward, done

SEVEN = Rests(7)


def leads_of_reduced(kind, table):
    """The leads' columns where the table is reduced as the document tells it; None where it is not."""
    nought, one = kind.number(0), kind.number(1)
    leads = []
    for place, row in enumerate(table):
        filled = [column for column, each in enumerate(row) if each != nought]
        if not filled:
            below = [each for other in table[place:] for each in other]
            return leads if all([each == nought for each in below]) else None
        lead = filled[0]
        others = [other[lead] for other in table[:place] + table[place + 1:]]
        if row[lead] != one or leads and lead <= leads[-1] or any([each != nought for each in others]):
            return None
        leads.append(lead)
    return leads


class Steps(unittest.TestCase):

    def check(self, kind, table):
        answer = steps(kind, table)
        self.assertIs(type(answer), tuple)
        reduced, turns, leads = answer
        self.assertIs(is_table(kind, reduced), True)
        self.assertEqual([type(each) for each in (turns, leads)], [list, list])
        self.assertEqual(leads_of_reduced(kind, reduced), leads, table)
        self.assertEqual((reduced, leads), reduced_by_hand(kind, table))
        self.assertLessEqual(len(turns), 300)
        self.assertEqual(done(kind, table, turns), reduced)
        self.assertEqual(done(kind, reduced, backward(kind, turns)), table)
        self.assertEqual(rank(kind, table), len(leads))
        self.check_kernel(kind, table, reduced, leads)
        return answer

    def check_kernel(self, kind, table, reduced, leads):
        nought, one = kind.number(0), kind.number(1)
        free = [place for place in range(len(table[0])) if place not in leads]
        columns = kernel(kind, table)
        self.assertIs(type(columns), list)
        self.assertEqual(len(columns), len(free))
        for column, place in zip(columns, free):
            self.assertIs(type(column), list)
            self.assertEqual(len(column), len(table[0]))
            self.assertEqual([column[each] for each in free], [one if each == place else nought for each in free])
            for row, lead in zip(reduced, leads):
                self.assertEqual(kind.plus(column[lead], row[place]), nought)
            for row in table:
                self.assertEqual(product_by_hand(kind, row, column), nought)

    def test_written_out(self):
        reduced, turns, leads = steps(SEVEN, [[0, 2, 4], [0, 1, 3]])
        self.assertEqual((reduced, leads), ([[0, 1, 0], [0, 0, 1]], [1, 2]))
        table = [[(1, 1), (2, 1), (3, 1)], [(2, 1), (4, 1), (7, 1)], [(1, 1), (2, 1), (4, 1)]]
        reduced, turns, leads = steps(Fractions(), table)
        self.assertEqual(reduced, [[(1, 1), (2, 1), (0, 1)], [(0, 1), (0, 1), (1, 1)], [(0, 1), (0, 1), (0, 1)]])
        self.assertEqual(leads, [0, 2])
        self.assertEqual(rank(Fractions(), table), 2)
        self.assertEqual(kernel(Fractions(), table), [[(-2, 1), (1, 1), (0, 1)]])
        self.assertEqual(kernel(Fractions(), [[(2, 1), (3, 1), (1, 2)]]),
                         [[(-3, 2), (1, 1), (0, 1)], [(-1, 4), (0, 1), (1, 1)]])
        self.assertEqual(kernel(SEVEN, [[0, 3, 1]]), [[1, 0, 0], [0, 2, 1]])

    def test_many_sizes_and_ranks(self):
        chance = source(121)
        for kind in kinds():
            for table in some_tables(chance, kind):
                self.check(kind, table)

    def test_all_small_tables(self):
        for prime, rows, columns in ((2, 2, 3), (2, 3, 2), (2, 3, 3), (3, 2, 2), (3, 1, 3), (3, 3, 1), (5, 2, 2)):
            for table in all_tables(prime, rows, columns):
                self.check(Rests(prime), table)

    def test_sixty_figures(self):
        chance = source(122)
        for rows, columns in ((7, 7), (4, 7), (7, 3), (1, 7), (7, 1), (1, 1)):
            self.check(Fractions(), random_table(chance, Fractions(), rows, columns))

    def test_noughts(self):
        for kind in kinds():
            for rows, columns in ((1, 1), (1, 7), (7, 1), (3, 3), (7, 7)):
                table = noughts(kind, rows, columns)
                self.assertEqual(self.check(kind, table)[0::2], (table, []))
                self.assertEqual(kernel(kind, table), unit(kind, columns))

    def test_reduced_already(self):
        for kind in kinds():
            nought, one, other = kind.number(0), kind.number(1), kind.number(-1)
            table = [[nought, one, other, nought, one], [nought, nought, nought, one, other], [nought] * 5]
            self.assertEqual(self.check(kind, table)[0::2], (table, [1, 3]))
            self.assertEqual(self.check(kind, unit(kind, 7))[0::2], (unit(kind, 7), list(range(7))))
            self.assertEqual(kernel(kind, unit(kind, 7)), [])

    def test_leads_far_down_and_far_right(self):
        for kind in kinds():
            for size in (2, 5, 7):
                table = unit(kind, size)[::-1]
                self.assertEqual(self.check(kind, table)[0], unit(kind, size))
                table = noughts(kind, size, size)
                table[-1][-1] = kind.number(-1)
                self.assertEqual(self.check(kind, table)[2], [size - 1])

    def test_tables_with_one_reduced_table_lead_to_one_another(self):
        chance = source(123)
        for kind in kinds():
            one = low_table(chance, kind, 4, 5, 2)
            other = done(kind, one, [("swap", 0, 3), ("add", 1, 2, kind.number(1)), ("add", 2, 0, kind.number(-1))])
            left, right = steps(kind, one), steps(kind, other)
            self.assertEqual(left[0], right[0])
            self.assertEqual(done(kind, one, left[1] + backward(kind, right[1])), other)


class AskersOwn(unittest.TestCase):

    def tables(self, kind):
        chance = source(2)
        nought, one = kind.number(0), kind.number(1)
        return [
            random_table(chance, kind, 3, 4, 10), low_table(chance, kind, 4, 3, 1), noughts(kind, 2, 3), unit(kind, 3),
            [[one, nought, one], [nought, one, one]], [[nought, one], [one, nought]],
        ]

    def test_answers_are_new_and_what_was_handed_in_is_as_it_was(self):
        for kind in kinds():
            for table in self.tables(kind):
                check_own(self, steps, [kind, table])
                check_own(self, kernel, [kind, table])
                before = copy.deepcopy(table)
                rank(kind, table)
                self.assertEqual(table, before)


if __name__ == "__main__":
    unittest.main()
