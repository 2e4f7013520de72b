import copy
import itertools
import unittest

from samples import (
    all_polys, all_tables, blocks_by_hand, check_own, companion_by_hand, determinant_of_polys, kinds, like, low_table,
    monic_poly, noughts, random_row, random_table, refused, source, square_tables, table_at_by_hand, x_less,
)

from turnframe.errors import NoFit
from turnframe.kinds import Fractions, Rests
from turnframe.leasts import great, least, least_of
from turnframe.polys import Polys, divided
from turnframe.steps import rank
from turnframe.tables import image, turned, unit

SEVEN = Rests(7)


def images_in_turn(kind, A, column, count):
    """The column, its image, the image of that, and so on."""
    columns = [column]
    while len(columns) < count:
        columns.append(image(kind, A, columns[-1]))
    return columns


class LeastOfAColumn(unittest.TestCase):

    def check(self, kind, A, column):
        f = least_of(kind, A, column)
        self.assertIs(Polys(kind).is_number(f), True)
        self.assertEqual(f[-1], kind.number(1))
        value = table_at_by_hand(kind, f, A)
        self.assertEqual(image(kind, value, column), [kind.number(0)] * len(A))
        # It is the shortest one where no sum of multiples of fewer images is noughts.
        if len(f) > 1:
            self.assertEqual(rank(kind, images_in_turn(kind, A, column, len(f) - 1)), len(f) - 1)
        else:
            self.assertEqual(column, [kind.number(0)] * len(A))
        return f

    def test_written_out(self):
        self.assertEqual(least_of(SEVEN, [[2, 0], [0, 3]], [1, 0]), [5, 1])
        self.assertEqual(least_of(SEVEN, [[2, 0], [0, 3]], [1, 1]), [6, 2, 1])
        self.assertEqual(least_of(SEVEN, [[2, 0], [0, 2]], [1, 1]), [5, 1])
        self.assertEqual(least_of(SEVEN, [[0, 0], [1, 0]], [1, 0]), [0, 0, 1])
        self.assertEqual(least_of(SEVEN, [[0, 0], [1, 0]], [0, 1]), [0, 1])
        self.assertEqual(least_of(Fractions(), [[(1, 2)]], [(5, 1)]), [(-1, 2), (1, 1)])
        self.assertEqual(least_of(Rests(2), [[1]], [1]), [1, 1])

    def test_noughts(self):
        chance = source(221)
        for kind in kinds():
            for size in (1, 2, 7):
                column = [kind.number(0)] * size
                self.assertEqual(least_of(kind, random_table(chance, kind, size, size), column), [kind.number(1)])
                self.assertEqual(least_of(kind, noughts(kind, size, size), column), [kind.number(1)])

    def test_many_sizes_and_ranks(self):
        chance = source(222)
        for kind in kinds():
            for A in square_tables(chance, kind):
                self.check(kind, A, random_row(chance, kind, len(A), 1))
                self.check(kind, A, unit(kind, len(A))[0])

    def test_all_small_tables(self):
        for prime, size in ((2, 1), (2, 2), (3, 2), (2, 3)):
            for A in list(all_tables(prime, size, size))[::1 if size < 3 else 3]:
                for column in itertools.product(range(prime), repeat=size):
                    self.check(Rests(prime), A, list(column))

    def test_columns_of_blocks(self):
        chance = source(223)
        for kind in kinds():
            f, g = monic_poly(chance, kind, 3), monic_poly(chance, kind, 4)
            A = blocks_by_hand(kind, [companion_by_hand(kind, f), companion_by_hand(kind, g)])
            self.assertEqual(self.check(kind, A, unit(kind, 7)[0]), f)
            self.assertEqual(self.check(kind, A, unit(kind, 7)[3]), g)

    def test_sixty_figures(self):
        chance, kind = source(224), Fractions()
        for size in (1, 2, 3):
            self.check(kind, random_table(chance, kind, size, size), random_row(chance, kind, size))
        A = [[(chance.randint(-10 ** 59, 10 ** 59), 1) for column in range(7)] for row in range(7)]
        self.assertEqual(len(self.check(kind, A, random_row(chance, kind, 7, 5))), 8)

    def test_sizes_that_do_not_fit(self):
        for kind in kinds():
            for rows, columns in itertools.product((1, 2, 3, 7), repeat=2):
                for count in (0, 1, 2, 3, 6, 7, 8):
                    if rows != columns or count != rows:
                        column = [kind.number(0)] * count
                        refused(self, NoFit, least_of, kind, noughts(kind, rows, columns), column)


class LeastOfATable(unittest.TestCase):

    def check(self, kind, A):
        answer = least(kind, A)
        self.assertIs(type(answer), tuple)
        f, column = answer
        self.assertIs(Polys(kind).is_number(f), True)
        self.assertEqual(f[-1], kind.number(1))
        self.assertEqual((type(column), len(column)), (list, len(A)))
        self.assertTrue(all([kind.is_number(each) for each in column]))
        # It brings the table to noughts, and none that does is shorter than the least polynomial of any column.
        self.assertEqual(table_at_by_hand(kind, f, A), noughts(kind, len(A), len(A)))
        self.assertEqual(least_of(kind, A, column), f)
        self.assertEqual(rank(kind, images_in_turn(kind, A, column, len(f) - 1)), len(f) - 1)
        return f

    def test_written_out(self):
        self.assertEqual(self.check(SEVEN, [[2, 0], [0, 3]]), [6, 2, 1])
        self.assertEqual(self.check(SEVEN, [[2, 0], [0, 2]]), [5, 1])
        self.assertEqual(self.check(SEVEN, [[0, 0], [0, 0]]), [0, 1])
        self.assertEqual(self.check(SEVEN, [[3]]), [4, 1])
        self.assertEqual(self.check(Rests(2), [[1, 0, 0], [0, 1, 0], [0, 0, 0]]), [0, 1, 1])
        self.assertEqual(self.check(Fractions(), [[(1, 2), (0, 1)], [(0, 1), (1, 3)]]), [(1, 6), (-5, 6), (1, 1)])

    def test_many_sizes_and_ranks(self):
        chance = source(225)
        for kind in kinds():
            for A in square_tables(chance, kind):
                self.check(kind, A)
            self.check(kind, unit(kind, 7))

    def test_all_small_tables(self):
        for prime, size in ((2, 1), (2, 2), (3, 2), (2, 3), (5, 2)):
            some = [f for degree in range(size + 1) for f in all_polys(prime, degree)]
            kind, nought = Rests(prime), noughts(Rests(prime), size, size)
            for A in all_tables(prime, size, size):
                f = self.check(kind, A)
                if size == 2 or A[0][0] == 0:
                    self.assertEqual(f, [g for g in some if table_at_by_hand(kind, g, A) == nought][0])

    def test_blocks(self):
        chance = source(226)
        for kind in kinds():
            for degrees in ((1, 1, 1), (2, 2), (1, 2, 3), (3, 4), (2, 2, 2, 1), (1, 1, 1, 1, 1, 1, 1)):
                parts = [monic_poly(chance, kind, degree) for degree in degrees]
                A = blocks_by_hand(kind, [companion_by_hand(kind, f) for f in parts])
                whole = self.check(kind, A)
                for f in parts:
                    self.assertEqual(divided(kind, whole, f)[1], [])
                self.assertEqual(self.check(kind, like(chance, kind, A)), whole)

    def test_one_block_more_than_once(self):
        chance = source(227)
        for kind in kinds():
            for degree, count in ((1, 7), (2, 3), (3, 2)):
                f = monic_poly(chance, kind, degree)
                A = blocks_by_hand(kind, [companion_by_hand(kind, f)] * count)
                self.assertEqual(self.check(kind, A), f)

    def test_powers_of_one_polynomial_in_unlike_blocks(self):
        for kind in kinds():
            f, g = [kind.number(1), kind.number(1)], [kind.number(0), kind.number(1)]
            product = Polys(kind).times
            # Two columns that each have more of another factor: neither alone is enough.
            one, other = product(product(f, f), g), product(f, product(g, product(g, g)))
            A = blocks_by_hand(kind, [companion_by_hand(kind, one), companion_by_hand(kind, other)])
            self.assertEqual(self.check(kind, A), product(product(f, f), product(g, product(g, g))))

    def test_sixty_figures(self):
        chance, kind = source(228), Fractions()
        A = random_table(chance, kind, 7, 7)
        f, column = least(kind, A)
        self.assertEqual(f, great(kind, A))
        self.assertEqual(least_of(kind, A, column), f)
        self.check(kind, blocks_by_hand(kind, [random_table(chance, kind, 2, 2)] * 2))

    def test_not_square(self):
        for kind in kinds():
            for rows, columns in itertools.product(range(1, 8), repeat=2):
                if rows != columns:
                    refused(self, NoFit, least, kind, noughts(kind, rows, columns))
                    refused(self, NoFit, great, kind, noughts(kind, rows, columns))


class Great(unittest.TestCase):

    def check(self, kind, A):
        f = great(kind, A)
        self.assertIs(Polys(kind).is_number(f), True)
        self.assertEqual((len(f), f[-1]), (len(A) + 1, kind.number(1)))
        self.assertEqual(table_at_by_hand(kind, f, A), noughts(kind, len(A), len(A)))
        if len(A) < 5:
            self.assertEqual(f, determinant_of_polys(kind, x_less(kind, A)))
        return f

    def test_written_out(self):
        self.assertEqual(great(SEVEN, [[3]]), [4, 1])
        self.assertEqual(great(SEVEN, [[1, 2], [3, 4]]), [5, 2, 1])
        self.assertEqual(great(SEVEN, [[0, 0], [0, 0]]), [0, 0, 1])
        self.assertEqual(great(Fractions(), [[(1, 2), (1, 1)], [(0, 1), (1, 3)]]), [(1, 6), (-5, 6), (1, 1)])
        self.assertEqual(great(Rests(2), [[0, 1], [1, 1]]), [1, 1, 1])

    def test_many_sizes_and_ranks(self):
        chance = source(229)
        for kind in kinds():
            for A in square_tables(chance, kind):
                self.check(kind, A)
                self.assertEqual(great(kind, turned(A)), great(kind, A))

    def test_all_small_tables(self):
        for prime, size in ((2, 1), (2, 2), (3, 2), (2, 3)):
            for A in all_tables(prime, size, size):
                self.check(Rests(prime), A)

    def test_companions_and_blocks(self):
        chance = source(230)
        for kind in kinds():
            f, g = monic_poly(chance, kind, 3), monic_poly(chance, kind, 4)
            A = blocks_by_hand(kind, [companion_by_hand(kind, f), companion_by_hand(kind, g)])
            self.assertEqual(self.check(kind, A), Polys(kind).times(f, g))
            self.assertEqual(self.check(kind, like(chance, kind, A)), Polys(kind).times(f, g))
            f = monic_poly(chance, kind, 7, 60)
            self.assertEqual(self.check(kind, companion_by_hand(kind, f)), f)

    def test_sixty_figures(self):
        chance, kind = source(231), Fractions()
        self.check(kind, random_table(chance, kind, 3, 3))
        A = random_table(chance, kind, 4, 4)
        self.assertEqual(great(kind, A), determinant_of_polys(kind, x_less(kind, A)))


class AskersOwn(unittest.TestCase):

    def test_answers_are_new_and_what_was_handed_in_is_as_it_was(self):
        chance = source(2)
        for kind in kinds():
            for A in (random_table(chance, kind, 3, 3, 5), unit(kind, 3), low_table(chance, kind, 3, 3, 1),
                      noughts(kind, 3, 3)):
                check_own(self, great, [kind, A])
                check_own(self, least, [kind, A])
                for column in (random_row(chance, kind, 3, 5), [kind.number(0)] * 3, A[0]):
                    check_own(self, least_of, [kind, A, column])

    def test_a_refusal_changes_nothing(self):
        A, column = [[1, 2]], [1]
        before = copy.deepcopy((A, column))
        refused(self, NoFit, great, SEVEN, A)
        refused(self, NoFit, least, SEVEN, A)
        refused(self, NoFit, least_of, SEVEN, A, column)
        self.assertEqual((A, column), before)


if __name__ == "__main__":
    unittest.main()
