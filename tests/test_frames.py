import copy
import functools
import itertools
import unittest

from samples import (
    blocks_by_hand, blocks_of_chain, check_own, check_turns, companion_by_hand, determinant_of_polys, falling_sizes,
    families, few_kinds, kinds, like, low_table, monic_poly, noughts, product_poly_by_hand, random_chain,
    random_table, refused, source, square_tables, table_at_by_hand, unit_by_hand, x_less,
)

from turnframe.errors import NoFit
from turnframe.frames import blocks, companion, frame
from turnframe.kinds import Fractions, Rests
from turnframe.leasts import great, least
from turnframe.polys import Polys, divided
from turnframe.tables import is_table, turned

TWO = Rests(2)
SEVEN = Rests(7)


class Companions(unittest.TestCase):

    def test_written_out(self):
        self.assertEqual(companion(SEVEN, [3, 1]), [[4]])
        self.assertEqual(companion(SEVEN, [0, 1]), [[0]])
        self.assertEqual(companion(SEVEN, [1, 2, 1]), [[0, 6], [1, 5]])
        self.assertEqual(companion(SEVEN, [1, 2, 3, 1]), [[0, 0, 6], [1, 0, 5], [0, 1, 4]])
        self.assertEqual(companion(TWO, [1, 1]), [[1]])
        self.assertEqual(companion(TWO, [1, 0, 1, 1, 1]), [[0, 0, 0, 1], [1, 0, 0, 0], [0, 1, 0, 1], [0, 0, 1, 1]])
        self.assertEqual(companion(SEVEN, [1, 2, 3, 4, 5, 1]), [
            [0, 0, 0, 0, 6], [1, 0, 0, 0, 5], [0, 1, 0, 0, 4], [0, 0, 1, 0, 3], [0, 0, 0, 1, 2]])
        self.assertEqual(companion(SEVEN, [1, 2, 3, 4, 5, 6, 1]), [
            [0, 0, 0, 0, 0, 6], [1, 0, 0, 0, 0, 5], [0, 1, 0, 0, 0, 4], [0, 0, 1, 0, 0, 3], [0, 0, 0, 1, 0, 2],
            [0, 0, 0, 0, 1, 1]])
        self.assertEqual(companion(SEVEN, [1, 2, 3, 4, 5, 6, 0, 1]), [
            [0, 0, 0, 0, 0, 0, 6], [1, 0, 0, 0, 0, 0, 5], [0, 1, 0, 0, 0, 0, 4], [0, 0, 1, 0, 0, 0, 3],
            [0, 0, 0, 1, 0, 0, 2], [0, 0, 0, 0, 1, 0, 1], [0, 0, 0, 0, 0, 1, 0]])
        kind = Fractions()
        self.assertEqual(companion(kind, [(-2, 3), (1, 1)]), [[(2, 3)]])
        self.assertEqual(companion(kind, [(1, 2), (-3, 1), (1, 1)]), [[(0, 1), (-1, 2)], [(1, 1), (3, 1)]])

    def test_each_degree(self):
        chance = source(241)
        for kind in kinds():
            for degree in range(1, 8):
                for f in (monic_poly(chance, kind, degree, 60), [kind.number(0)] * degree + [kind.number(1)]):
                    table = companion(kind, f)
                    self.assertIs(is_table(kind, table), True)
                    self.assertEqual(table, companion_by_hand(kind, f))
                    if degree < 5:
                        self.assertEqual(determinant_of_polys(kind, x_less(kind, table)), f)


class Blocks(unittest.TestCase):

    def test_written_out(self):
        self.assertEqual(blocks(SEVEN, [[3, 1]]), [[4]])
        self.assertEqual(blocks(SEVEN, [[3, 1], [5, 1]]), [[4, 0], [0, 2]])
        self.assertEqual(blocks(SEVEN, [[1, 2, 1], [3, 1]]), [[0, 6, 0], [1, 5, 0], [0, 0, 4]])
        self.assertEqual(blocks(SEVEN, [[3, 1], [1, 2, 1]]), [[4, 0, 0], [0, 0, 6], [0, 1, 5]])
        self.assertEqual(blocks(TWO, [[1, 1], [0, 1], [1, 1]]), [[1, 0, 0], [0, 0, 0], [0, 0, 1]])
        self.assertEqual(blocks(Fractions(), [[(1, 2), (1, 1)], [(0, 1), (1, 1)]]), [[(-1, 2), (0, 1)], [(0, 1)] * 2])
        self.assertEqual(blocks(SEVEN, [[1, 2, 1], [3, 4, 1]]), [
            [0, 6, 0, 0], [1, 5, 0, 0], [0, 0, 0, 4], [0, 0, 1, 3]])

    def test_all_degrees_in_all_orders(self):
        chance = source(242)
        for kind in kinds():
            for size in range(1, 8):
                for degrees in falling_sizes(size):
                    # The polynomials need not divide one another here, nor fall.
                    chain = [monic_poly(chance, kind, degree) for degree in chance.sample(degrees, len(degrees))]
                    table = blocks(kind, chain)
                    self.assertIs(is_table(kind, table), True)
                    self.assertEqual(table, blocks_of_chain(kind, chain))


class Frames(unittest.TestCase):

    def check(self, kind, A):
        """What is told of a frame holds; the chain is handed back."""
        answer = frame(kind, A)
        self.assertEqual((type(answer), len(answer)), (tuple, 3))
        chain, T, S = answer
        self.assertIs(type(chain), list)
        for f in chain:
            self.assertIs(Polys(kind).is_number(f), True)
            self.assertGreaterEqual(len(f), 2)
            self.assertEqual(f[-1], kind.number(1))
        for f, g in zip(chain, chain[1:]):
            self.assertEqual(product_poly_by_hand(kind, divided(kind, f, g)[0], g), f)
        check_turns(self, kind, A, T, S, blocks_of_chain(kind, chain))
        return chain

    def check_polynomials(self, kind, A, chain):
        """The first one is the least polynomial, the product is the great one."""
        self.assertEqual(table_at_by_hand(kind, chain[0], A), noughts(kind, len(A), len(A)))
        self.assertEqual(least(kind, A)[0], chain[0])
        product = [kind.number(1)]
        for f in chain:
            product = product_poly_by_hand(kind, product, f)
        self.assertEqual(product, great(kind, A))
        if len(A) < 5:
            self.assertEqual(product, determinant_of_polys(kind, x_less(kind, A)))

    def test_written_out(self):
        self.assertEqual(self.check(SEVEN, [[3]]), [[4, 1]])
        self.assertEqual(self.check(SEVEN, [[2, 0], [0, 3]]), [[6, 2, 1]])
        self.assertEqual(self.check(SEVEN, [[2, 0], [0, 2]]), [[5, 1], [5, 1]])
        self.assertEqual(self.check(SEVEN, [[2, 1], [0, 2]]), [[4, 3, 1]])
        self.assertEqual(self.check(SEVEN, [[2, 0, 0], [0, 3, 0], [0, 0, 2]]), [[6, 2, 1], [5, 1]])
        self.assertEqual(self.check(TWO, [[0, 1], [1, 0]]), [[1, 0, 1]])
        self.assertEqual(self.check(TWO, [[1, 1, 0], [0, 1, 0], [0, 0, 1]]), [[1, 0, 1], [1, 1]])
        kind = Fractions()
        self.assertEqual(self.check(kind, [[(1, 2)]]), [[(-1, 2), (1, 1)]])
        self.assertEqual(self.check(kind, [[(1, 2), (0, 1)], [(0, 1), (1, 2)]]), [[(-1, 2), (1, 1)]] * 2)
        A = [[(1, 1), (2, 1), (3, 1)], [(2, 1), (4, 1), (6, 1)], [(3, 1), (6, 1), (9, 1)]]
        self.assertEqual(self.check(kind, A), [[(0, 1), (-14, 1), (1, 1)], [(0, 1), (1, 1)]])

    def test_unit_and_noughts(self):
        for kind in kinds():
            for size in range(1, 8):
                self.assertEqual(self.check(kind, unit_by_hand(kind, size)), [[kind.number(-1), kind.number(1)]] * size)
                self.assertEqual(self.check(kind, noughts(kind, size, size)), [[kind.number(0), kind.number(1)]] * size)

    def test_the_chain_of_the_blocks_of_a_chain(self):
        chance = source(251)
        for kind in few_kinds():
            for size in range(1, 8):
                for degrees in falling_sizes(size):
                    chain = random_chain(chance, kind, degrees)
                    A = blocks_of_chain(kind, chain)
                    self.assertEqual(self.check(kind, A), chain)
                    self.assertEqual(self.check(kind, like(chance, kind, A)), chain)
                    self.assertEqual(self.check(kind, turned(A)), chain)

    def test_the_chain_does_not_hang_on_the_order_of_the_blocks(self):
        chance = source(252)
        for kind in kinds():
            for degrees in ([4, 2, 1], [3, 3, 1], [2, 2, 2, 1], [2, 1, 1, 1], [3, 2], [1] * 7):
                chain = random_chain(chance, kind, degrees)
                A = blocks_of_chain(kind, chance.sample(chain, len(chain)))
                self.assertEqual(self.check(kind, A), chain)
                self.assertEqual(self.check(kind, like(chance, kind, A)), chain)

    def test_blocks_without_common_parts_come_together(self):
        for kind in kinds():
            x, y = [kind.number(0), kind.number(1)], [kind.number(-1), kind.number(1)]
            times = lambda *some: functools.reduce(lambda f, g: product_poly_by_hand(kind, f, g), some)
            for parts, chain in (
                ([x, y], [times(x, y)]),
                ([x, y, x, y], [times(x, y)] * 2),
                ([x, x, x, y], [times(x, y), x, x]),
                ([times(x, x), times(y, y), x, y], [times(x, x, y, y), times(x, y)]),
                ([times(x, x, x), y, x, times(y, y)], [times(x, x, x, y, y), times(x, y)]),
                ([times(x, y, y), times(x, x, y)], [times(x, x, y, y), times(x, y)]),
                ([x, times(x, x), times(x, x), y, y], [times(x, x, y), times(x, x, y), x]),
            ):
                self.assertEqual(self.check(kind, blocks_of_chain(kind, parts)), chain)

    def test_many_sizes_and_ranks(self):
        chance = source(253)
        for kind in kinds():
            for A in square_tables(chance, kind):
                chain = self.check(kind, A)
                self.check_polynomials(kind, A, chain)
                self.assertEqual(self.check(kind, like(chance, kind, A)), chain)

    def test_least_and_great_of_chains_of_several(self):
        chance = source(254)
        for kind in kinds():
            for degrees in ([1, 1], [2, 1], [2, 2], [2, 1, 1], [3, 2, 2], [4, 3], [5, 1, 1], [1] * 7):
                chain = random_chain(chance, kind, degrees)
                A = like(chance, kind, blocks_of_chain(kind, chain))
                self.check_polynomials(kind, A, self.check(kind, A))

    def test_all_small_tables(self):
        for prime, size in ((2, 1), (3, 1), (2, 2), (3, 2), (2, 3)):
            kind, chains = Rests(prime), {}
            for A, family in families(prime, size):
                chain = self.check(kind, A)
                self.check_polynomials(kind, A, chain)
                # The same chain for every table that is like A, and for no other one.
                chains.setdefault(str(chain), family)
                self.assertEqual(chains[str(chain)], family)
            self.assertEqual(len(chains), sum([prime ** each for each in range(1, size + 1)]))

    def test_tables_of_few_numbers(self):
        chance = source(255)
        for kind in (Fractions(), TWO, Rests(3), SEVEN):
            for turn in range(60):
                size = chance.randint(4, 7)
                some = [kind.number(each) for each in (0, 0, 0, 0, 1, -1)]
                A = [[chance.choice(some) for column in range(size)] for row in range(size)]
                chain = self.check(kind, A)
                self.assertEqual(self.check(kind, like(chance, kind, A)), chain)
                self.assertEqual(self.check(kind, turned(A)), chain)

    def test_sixty_figures(self):
        chance, kind = source(256), Fractions()
        for size in (1, 2, 3, 4):
            A = random_table(chance, kind, size, size)
            self.check_polynomials(kind, A, self.check(kind, A))
        wholes = [[(chance.randint(-10 ** 59, 10 ** 59), 1) for column in range(7)] for row in range(7)]
        self.assertEqual(self.check(kind, wholes), [great(kind, wholes)])
        f = monic_poly(chance, kind, 3, 60)
        A = blocks_of_chain(kind, [f, f])
        self.assertEqual(self.check(kind, A), [f, f])
        part = random_table(chance, kind, 2, 2)
        f = great(kind, part)
        self.assertEqual(self.check(kind, blocks_by_hand(kind, [part, part, part])), [f, f, f])
        number = (10 ** 60 - 1, 10 ** 60 - 2)
        A = [[number if row == column else (0, 1) for column in range(7)] for row in range(7)]
        self.assertEqual(self.check(kind, A), [[(1 - 10 ** 60, 10 ** 60 - 2), (1, 1)]] * 7)
        # Seven rows with several polynomials, of which a turn on both sides makes great numbers.
        for degrees in ([6, 1], [4, 3], [3, 3, 1], [2, 2, 2, 1], [2, 1, 1, 1, 1, 1]):
            chain = random_chain(chance, kind, degrees, 8)
            A = blocks_of_chain(kind, chain)
            for turn in range(5):
                A = like(chance, kind, A)
            self.assertEqual(self.check(kind, A), chain)

    def test_not_square(self):
        for kind in kinds():
            for rows, columns in itertools.product(range(1, 8), repeat=2):
                if rows != columns:
                    refused(self, NoFit, frame, kind, noughts(kind, rows, columns))


class AskersOwn(unittest.TestCase):

    def test_answers_are_new_and_what_was_handed_in_is_as_it_was(self):
        chance = source(2)
        for kind in kinds():
            f, g = monic_poly(chance, kind, 2), monic_poly(chance, kind, 1)
            check_own(self, companion, [kind, f])
            check_own(self, companion, [kind, g])
            for chain in ([f], [f, g], [f, f, g], [g] * 7):
                check_own(self, blocks, [kind, chain])
            for A in (random_table(chance, kind, 3, 3, 5), unit_by_hand(kind, 3), low_table(chance, kind, 4, 4, 1),
                      noughts(kind, 3, 3), unit_by_hand(kind, 1), blocks_of_chain(kind, [f, f, g])):
                check_own(self, frame, [kind, A])

    def test_a_refusal_changes_nothing(self):
        A = [[1, 2]]
        before = copy.deepcopy(A)
        refused(self, NoFit, frame, SEVEN, A)
        self.assertEqual(A, before)


if __name__ == "__main__":
    unittest.main()
