import copy
import itertools
import unittest

from samples import (
    blocks_of_chain, check_own, check_turns, falling_sizes, families, few_kinds, kinds, like, noughts,
    poly_with_roots, product_poly_by_hand, random_chain, random_table, reduced_by_hand, refused, source,
    square_tables, table_at_by_hand, unit_by_hand,
)

from turnframe.errors import NoFit
from turnframe.frames import frame
from turnframe.kinds import Fractions, Rests
from turnframe.leasts import great, least
from turnframe.likes import alike
from turnframe.polys import Polys
from turnframe.tables import turned

TWO = Rests(2)
SEVEN = Rests(7)


def rank_by_hand(kind, g, A):
    return len(reduced_by_hand(kind, table_at_by_hand(kind, g, A))[1])


def block_of_power(kind, root, size):
    """The polynomial of x less a root, taken so many times."""
    return poly_with_roots(kind, [(kind.number(root), size)])


class Alike(unittest.TestCase):

    def check_alike(self, kind, A, B):
        answer = alike(kind, A, B)
        self.assertEqual((type(answer), len(answer)), (tuple, 3))
        self.assertEqual(answer[0], "alike")
        check_turns(self, kind, A, answer[1], answer[2], B)

    def check_apart(self, kind, A, B):
        answer = alike(kind, A, B)
        self.assertEqual((type(answer), len(answer)), (tuple, 4))
        word, g, a, b = answer
        self.assertEqual(word, "apart")
        self.assertIs(Polys(kind).is_number(g), True)
        self.assertLessEqual(len(g), 8)
        self.assertEqual((type(a), type(b)), (int, int))
        self.assertEqual((a, b), (rank_by_hand(kind, g, A), rank_by_hand(kind, g, B)))
        self.assertNotEqual(a, b)

    def check(self, kind, A, B, same):
        (self.check_alike if same else self.check_apart)(kind, A, B)
        (self.check_alike if same else self.check_apart)(kind, B, A)

    def test_written_out(self):
        self.check(SEVEN, [[3]], [[3]], True)
        self.check(SEVEN, [[3]], [[4]], False)
        self.check(SEVEN, [[2, 0], [0, 3]], [[3, 0], [0, 2]], True)
        self.check(SEVEN, [[2, 1], [0, 3]], [[3, 0], [0, 2]], True)
        self.check(SEVEN, [[2, 1], [0, 2]], [[2, 0], [0, 2]], False)
        self.check(SEVEN, [[2, 1], [0, 2]], [[2, 0], [5, 2]], True)
        self.check(TWO, [[0, 1], [1, 0]], [[1, 1], [0, 1]], True)
        self.check(TWO, [[0, 1], [1, 0]], [[0, 1], [1, 1]], False)
        kind = Fractions()
        self.check(kind, [[(1, 2), (1, 1)], [(0, 1), (1, 3)]], [[(1, 3), (0, 1)], [(0, 1), (1, 2)]], True)
        self.check(kind, [[(0, 1), (1, 1)], [(1, 1), (0, 1)]], [[(0, 1), (-1, 1)], [(1, 1), (0, 1)]], False)

    def test_each_with_itself_and_with_like_ones(self):
        chance = source(261)
        for kind in few_kinds():
            for A in square_tables(chance, kind, (1, 2, 3, 7)):
                self.check_alike(kind, A, A)
                self.check_alike(kind, A, like(chance, kind, A))
                self.check_alike(kind, like(chance, kind, A), turned(A))
            for size in range(1, 8):
                self.check_alike(kind, unit_by_hand(kind, size), unit_by_hand(kind, size))

    def test_random_pairs(self):
        chance = source(262)
        for kind in kinds():
            for size in (1, 2, 3, 5, 7):
                A, B = random_table(chance, kind, size, size, 2), random_table(chance, kind, size, size, 2)
                self.check(kind, A, B, frame(kind, A)[0] == frame(kind, B)[0])

    def test_unit_noughts_and_others(self):
        for kind in few_kinds():
            for size in range(1, 8):
                one, none = unit_by_hand(kind, size), noughts(kind, size, size)
                self.check(kind, one, none, False)
                if size > 1:
                    around = one[-1:] + one[:-1]
                    self.check(kind, one, around, False)
                    self.check(kind, none, around, False)
                    self.check(kind, around, turned(around), True)

    def test_all_blocks_of_one_root(self):
        # All of these have the same great polynomial.
        for kind, root, most in ((Fractions(), 0, 5), (Fractions(), -2, 4), (TWO, 0, 5), (TWO, 1, 7), (SEVEN, 3, 5)):
            for size in (2, 3, 4, most):
                some = [blocks_of_chain(kind, [block_of_power(kind, root, each) for each in sizes])
                        for sizes in falling_sizes(size)]
                for one, other in itertools.combinations_with_replacement(range(len(some)), 2):
                    self.check(kind, some[one], some[other], one == other)

    def test_the_same_great_and_the_same_least_polynomial(self):
        chance = source(263)
        for kind in few_kinds():
            for sizes, others in (([2, 2], [2, 1, 1]), ([3, 3, 1], [3, 2, 2]), ([3, 3, 1], [3, 2, 1, 1]),
                                  ([2, 2, 2, 1], [2, 2, 1, 1, 1]), ([4, 2, 1], [4, 1, 1, 1])):
                A = like(chance, kind, blocks_of_chain(kind, [block_of_power(kind, 1, each) for each in sizes]))
                B = like(chance, kind, blocks_of_chain(kind, [block_of_power(kind, 1, each) for each in others]))
                self.assertEqual(great(kind, A), great(kind, B))
                self.assertEqual(least(kind, A)[0], least(kind, B)[0])
                self.check(kind, A, B, False)
            # The first polynomials are the same, and of the second ones neither divides the other.
            x, y = [kind.number(0), kind.number(1)], [kind.number(-1), kind.number(1)]
            whole = product_poly_by_hand(kind, x, y)
            self.check(kind, blocks_of_chain(kind, [whole, x]), blocks_of_chain(kind, [whole, y]), False)
            more = product_poly_by_hand(kind, whole, whole)
            one, other = product_poly_by_hand(kind, whole, x), product_poly_by_hand(kind, whole, y)
            self.check(kind, blocks_of_chain(kind, [more, one]), blocks_of_chain(kind, [more, other]), False)

    def test_chains_of_all_degrees(self):
        chance = source(264)
        for kind in few_kinds():
            tables = [blocks_of_chain(kind, random_chain(chance, kind, degrees)) for degrees in falling_sizes(5)]
            for one, other in itertools.combinations(range(len(tables)), 2):
                self.check(kind, tables[one], like(chance, kind, tables[other]), False)
            for A in tables:
                self.check(kind, A, like(chance, kind, A), True)

    def test_all_small_tables(self):
        for prime, size in ((2, 1), (3, 1), (2, 2)):
            for one, other in itertools.product(families(prime, size), repeat=2):
                self.check(Rests(prime), one[0], other[0], one[1] == other[1])
        for prime, size, step in ((3, 2, 5), (2, 3, 29)):
            some = families(prime, size)
            for one, other in itertools.product(some[::step], some[::step]):
                self.check(Rests(prime), one[0], other[0], one[1] == other[1])

    def test_sixty_figures(self):
        chance, kind = source(265), Fractions()
        for size in (1, 2, 3):
            A = random_table(chance, kind, size, size)
            self.check(kind, A, turned(A), True)
            self.check(kind, A, random_table(chance, kind, size, size), False)
        A = random_table(chance, kind, 7, 7)
        word, g, a, b = alike(kind, A, random_table(chance, kind, 7, 7))
        self.assertEqual((word, sorted((a, b))), ("apart", [0, 7]))
        wholes = [[(chance.randint(-10 ** 59, 10 ** 59), 1) for column in range(7)] for row in range(7)]
        self.check_alike(kind, wholes, turned(wholes))

    def test_sizes_that_do_not_fit(self):
        for kind in kinds():
            for rows, columns in itertools.product(range(1, 8), repeat=2):
                if rows != columns:
                    long = noughts(kind, rows, columns)
                    refused(self, NoFit, alike, kind, unit_by_hand(kind, rows), unit_by_hand(kind, columns))
                    refused(self, NoFit, alike, kind, long, long)
                    for size in (rows, columns):
                        refused(self, NoFit, alike, kind, long, unit_by_hand(kind, size))
                        refused(self, NoFit, alike, kind, unit_by_hand(kind, size), long)


class AskersOwn(unittest.TestCase):

    def test_answers_are_new_and_what_was_handed_in_is_as_it_was(self):
        chance = source(2)
        for kind in few_kinds():
            for A in (random_table(chance, kind, 3, 3, 5), unit_by_hand(kind, 3), noughts(kind, 3, 3),
                      blocks_of_chain(kind, random_chain(chance, kind, [2, 1]))):
                check_own(self, alike, [kind, A, A])
                check_own(self, alike, [kind, A, like(chance, kind, A)])
                check_own(self, alike, [kind, A, unit_by_hand(kind, 3)])
                check_own(self, alike, [kind, noughts(kind, 3, 3), A])

    def test_a_refusal_changes_nothing(self):
        A, B = [[1, 2]], [[1, 2], [3, 4]]
        before = copy.deepcopy((A, B))
        refused(self, NoFit, alike, SEVEN, A, B)
        refused(self, NoFit, alike, SEVEN, B, A)
        self.assertEqual((A, B), before)


if __name__ == "__main__":
    unittest.main()
