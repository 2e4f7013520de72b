import copy
import itertools
import unittest
from fractions import Fraction

from samples import (
    all_tables, blocks_of_chain, check_own, check_turns, falling_sizes, few_near_kinds, like, low_table, monic_poly,
    near_kinds, noughts, poly_with_roots, product_poly_by_hand, random_chain, random_number, random_table, refused,
    source, square_tables, unit_by_hand,
)

from turnframe.errors import NoFit
from turnframe.frames import frame
from turnframe.kinds import Fractions, Rests
from turnframe.nears import near, nearly
from turnframe.polys import Polys
from turnframe.roots import roots
from turnframe.tables import is_table, turned

FRACTIONS = Fractions()
TWO = Rests(2)
SEVEN = Rests(7)


def nearly_by_hand(kind, some):
    size = sum([each[1] for each in some])
    table, start = noughts(kind, size, size), 0
    for root, count in some:
        for place in range(start, start + count):
            table[place][place] = root
        for place in range(start + 1, start + count):
            table[place][place - 1] = kind.number(1)
        start += count
    return table


def worth_of(kind, root):
    return root if isinstance(kind, Rests) else Fraction(*root)


def in_chain_order(kind, some):
    """What is told of the nearly diagonal table with these blocks, in any order.

    The first polynomial of the chain has of each root the greatest block, the second one the next greatest, and so on.
    """
    sizes, answer = {}, []
    for root, size in some:
        sizes.setdefault(root, []).append(size)
    left = {root: sorted(each, reverse=True) for root, each in sizes.items()}
    while any(left.values()):
        for root in sorted(left, key=lambda each: worth_of(kind, each)):
            if left[root]:
                answer.append((root, left[root].pop(0)))
    return answer


def rootless_polys(kind):
    """Some monic polynomials of degree 2 and 3 without a root."""
    if isinstance(kind, Fractions):
        return [[(1, 1), (0, 1), (1, 1)], [(-2, 1), (0, 1), (0, 1), (1, 1)], [(1, 2), (1, 1), (1, 1)]]
    some = [[x, y, 1] for x, y in itertools.product(range(1, min(kind.prime, 30)), range(min(kind.prime, 5)))]
    numbers = range(kind.prime)
    return [f for f in some if all([(f[0] + f[1] * each + each * each) % kind.prime for each in numbers])][:3]


class Nearly(unittest.TestCase):

    def test_written_out(self):
        self.assertEqual(nearly(SEVEN, [(3, 1)]), [[3]])
        self.assertEqual(nearly(SEVEN, [(3, 2)]), [[3, 0], [1, 3]])
        self.assertEqual(nearly(SEVEN, [(3, 1), (3, 1)]), [[3, 0], [0, 3]])
        self.assertEqual(nearly(SEVEN, [(3, 2), (0, 1), (5, 1)]), [
            [3, 0, 0, 0], [1, 3, 0, 0], [0, 0, 0, 0], [0, 0, 0, 5]])
        self.assertEqual(nearly(SEVEN, [(0, 1), (2, 3)]), [[0, 0, 0, 0], [0, 2, 0, 0], [0, 1, 2, 0], [0, 0, 1, 2]])
        self.assertEqual(nearly(TWO, [(1, 2), (0, 2)]), [[1, 0, 0, 0], [1, 1, 0, 0], [0, 0, 0, 0], [0, 0, 1, 0]])
        self.assertEqual(nearly(FRACTIONS, [((-1, 2), 2)]), [[(-1, 2), (0, 1)], [(1, 1), (-1, 2)]])
        self.assertEqual(nearly(FRACTIONS, [((1, 1), 1), ((2, 3), 1)]), [[(1, 1), (0, 1)], [(0, 1), (2, 3)]])

    def test_all_sizes_in_all_orders(self):
        chance = source(321)
        for kind in near_kinds():
            for size in range(1, 8):
                for sizes in falling_sizes(size):
                    some = [(random_number(chance, kind), each) for each in chance.sample(sizes, len(sizes))]
                    table = nearly(kind, some)
                    self.assertIs(is_table(kind, table), True)
                    self.assertEqual(table, nearly_by_hand(kind, some))


class Near(unittest.TestCase):

    def check(self, kind, A):
        """What is told holds; it is handed back as some, or as what is left."""
        answer = near(kind, A)
        self.assertIs(type(answer), tuple)
        if answer[0] == "left":
            self.assertEqual(len(answer), 2)
            f = answer[1]
            self.assertIs(Polys(kind).is_number(f), True)
            self.assertGreaterEqual(len(f), 3)
            self.assertEqual(f[-1], kind.number(1))
            self.assertEqual(roots(kind, f), [])
            # It is what the first polynomial has besides x less its roots.
            first = frame(kind, A)[0][0]
            self.assertEqual(poly_with_roots(kind, roots(kind, first), f), first)
            return f
        self.assertEqual((answer[0], len(answer)), ("near", 4))
        word, some, T, S = answer
        self.assertIs(type(some), list)
        for each in some:
            self.assertEqual((type(each), len(each), type(each[1])), (tuple, 2, int))
            self.assertIs(kind.is_number(each[0]), True)
        check_turns(self, kind, A, T, S, nearly_by_hand(kind, some))
        self.assertEqual(some, [each for f in frame(kind, A)[0] for each in roots(kind, f)])
        return some

    def test_written_out(self):
        self.assertEqual(self.check(SEVEN, [[3]]), [(3, 1)])
        self.assertEqual(self.check(SEVEN, [[3, 0], [0, 2]]), [(2, 1), (3, 1)])
        self.assertEqual(self.check(SEVEN, [[3, 1], [0, 3]]), [(3, 2)])
        self.assertEqual(self.check(SEVEN, [[3, 0], [0, 3]]), [(3, 1), (3, 1)])
        self.assertEqual(self.check(SEVEN, [[0, 6], [1, 0]]), [1, 0, 1])
        self.assertEqual(self.check(SEVEN, [[0, 6, 0], [1, 0, 0], [0, 0, 4]]), [1, 0, 1])
        self.assertEqual(self.check(TWO, [[0, 1], [1, 0]]), [(1, 2)])
        self.assertEqual(self.check(TWO, [[0, 1], [1, 1]]), [1, 1, 1])
        self.assertEqual(self.check(FRACTIONS, [[(1, 2)]]), [((1, 2), 1)])
        self.assertEqual(self.check(FRACTIONS, [[(0, 1), (1, 1)], [(1, 1), (0, 1)]]), [((-1, 1), 1), ((1, 1), 1)])
        self.assertEqual(self.check(FRACTIONS, [[(0, 1), (2, 1)], [(1, 1), (0, 1)]]), [(-2, 1), (0, 1), (1, 1)])
        A = nearly_by_hand(SEVEN, [(5, 1), (2, 2), (5, 2), (2, 1), (0, 1)])
        self.assertEqual(self.check(SEVEN, A), [(0, 1), (2, 2), (5, 2), (2, 1), (5, 1)])

    def test_unit_and_noughts(self):
        for kind in near_kinds():
            for size in range(1, 8):
                self.assertEqual(self.check(kind, unit_by_hand(kind, size)), [(kind.number(1), 1)] * size)
                self.assertEqual(self.check(kind, noughts(kind, size, size)), [(kind.number(0), 1)] * size)

    def test_nearly_diagonal_tables_turned_on_both_sides(self):
        chance = source(331)
        for kind in few_near_kinds():
            for size in range(1, 8):
                for sizes in falling_sizes(size):
                    few = [random_number(chance, kind, 1) for turn in range(3)]
                    some = [(chance.choice(few), each) for each in chance.sample(sizes, len(sizes))]
                    A = nearly_by_hand(kind, some)
                    expected = in_chain_order(kind, some)
                    self.assertEqual(self.check(kind, like(chance, kind, A)), expected)
                    self.assertEqual(near(kind, A)[1], expected)
                    self.assertEqual(near(kind, turned(A))[1], expected)

    def test_seven_roots(self):
        for kind in near_kinds():
            some = [(kind.number(each), 1) for each in (3, -2, 5, 0, -3, 1, 6)]
            A = nearly_by_hand(kind, some)
            self.assertEqual(self.check(kind, like(source(332), kind, A)), in_chain_order(kind, some))

    def test_what_is_left(self):
        chance = source(333)
        for kind in near_kinds():
            for f in rootless_polys(kind):
                self.assertEqual(self.check(kind, blocks_of_chain(kind, [f])), f)
                self.assertEqual(self.check(kind, blocks_of_chain(kind, [f, f])), f)
                for sizes in ((1,), (2,), (2, 1), (3,), (1, 1)):
                    some = [(random_number(chance, kind, 1), size) for size in sizes]
                    parts = [f, monic_poly(chance, kind, 1)] + [poly_with_roots(kind, [each]) for each in some]
                    A = like(chance, kind, blocks_of_chain(kind, chance.sample(parts, len(parts))))
                    self.assertEqual(self.check(kind, A), f)
                square = product_poly_by_hand(kind, f, f)
                if len(square) < 8:
                    self.assertEqual(self.check(kind, blocks_of_chain(kind, [square])), square)

    def test_many_sizes_and_ranks(self):
        chance = source(334)
        for kind in few_near_kinds():
            for A in square_tables(chance, kind):
                found = self.check(kind, A)
                B = like(chance, kind, A)
                self.assertEqual((near(kind, B)[0], near(kind, B)[1]), (near(kind, A)[0], found))
            for size in (3, 5, 7):
                for degrees in falling_sizes(size):
                    self.check(kind, blocks_of_chain(kind, random_chain(chance, kind, degrees)))

    def test_all_small_tables(self):
        for prime, size in ((2, 1), (3, 1), (2, 2), (3, 2), (2, 3)):
            for A in all_tables(prime, size, size):
                self.check(Rests(prime), A)

    def test_sixty_figures(self):
        chance = source(335)
        numbers = [(10 ** 60 - 1, 10 ** 60 - 2), (10 ** 59, 10 ** 59 + 1), (-10 ** 59, 3)]
        self.assertEqual(self.check(FRACTIONS, [[numbers[0]]]), [(numbers[0], 1)])
        some = [(number, 2) for number in numbers] + [(numbers[0], 1)]
        self.assertEqual(self.check(FRACTIONS, nearly_by_hand(FRACTIONS, some)), in_chain_order(FRACTIONS, some))
        some = [(FRACTIONS.number(10 ** 19 + each, 10 ** 19 - each), size) for each, size in ((1, 2), (2, 1), (3, 1))]
        A = like(chance, FRACTIONS, nearly_by_hand(FRACTIONS, some))
        self.assertEqual(self.check(FRACTIONS, A), in_chain_order(FRACTIONS, some))
        word, f = near(FRACTIONS, random_table(chance, FRACTIONS, 4, 4))
        self.assertEqual((word, len(f)), ("left", 5))

    def test_not_square(self):
        for kind in near_kinds():
            for rows, columns in itertools.product(range(1, 8), repeat=2):
                if rows != columns:
                    refused(self, NoFit, near, kind, noughts(kind, rows, columns))


class AskersOwn(unittest.TestCase):

    def test_answers_are_new_and_what_was_handed_in_is_as_it_was(self):
        chance = source(2)
        for kind in near_kinds():
            for some in ([(kind.number(3), 1)], [(kind.number(3), 2), (kind.number(1), 1)], [(kind.number(0), 1)] * 7):
                check_own(self, nearly, [kind, some])
            for A in (random_table(chance, kind, 3, 3, 2), unit_by_hand(kind, 3), low_table(chance, kind, 4, 4, 1),
                      noughts(kind, 3, 3), unit_by_hand(kind, 1), blocks_of_chain(kind, rootless_polys(kind)[:1] * 2)):
                check_own(self, near, [kind, A])

    def test_a_refusal_changes_nothing(self):
        A = [[1, 2]]
        before = copy.deepcopy(A)
        refused(self, NoFit, near, SEVEN, A)
        self.assertEqual(A, before)


if __name__ == "__main__":
    unittest.main()
