import itertools
import unittest

from samples import (
    ODDITIES, SIXTY, WHOLES, all_polys, check_own, kinds, monic_poly, noughts, product_poly_by_hand, random_number,
    random_poly, random_row, random_table, refused, source, sum_poly_by_hand, table_at_by_hand, told, worth,
)

from turnframe.errors import NoFit, NoNumber
from turnframe.kinds import Fractions, Kind, Rests
from turnframe.polys import Polys, common, divided, table_at, value_at
from turnframe.tables import is_table, scaled, times_table, unit

SEVEN = Rests(7)


def whole_poly(*numbers):
    return [(each, 1) for each in numbers]


class AsNumbers(unittest.TestCase):

    def test_a_kind_of_its_own(self):
        self.assertTrue(issubclass(Polys, Kind))
        for other in (Fractions, Rests):
            self.assertFalse(issubclass(Polys, other))
            self.assertFalse(issubclass(other, Polys))
        under = Rests(5)
        self.assertIs(Polys(under).under, under)
        self.assertIs(Polys(under=under).under, under)

    def test_what_is_a_polynomial(self):
        for thing in ([], [1], [0, 1], [6, 0, 0, 3], [1] * 30, [0] * 40 + [2]):
            self.assertIs(Polys(SEVEN).is_number(thing), True, thing)
        others = ([0], [1, 0], [0, 0], [7], [-1], [7, 1], [True], [1, True], [False, 1], [None, 1], [[1]], [[]],
                  (1,), (1, 2), 1, 0, {0: 1}, "1", [(1, 1)], [1.0], [0.0, 1])
        for thing in others:
            self.assertIs(Polys(SEVEN).is_number(thing), False, repr(thing))
        kind = Polys(Fractions())
        for thing in ([], [(1, 2)], [(0, 1), (-1, 3)], [(SIXTY, SIXTY - 1)] * 30):
            self.assertIs(kind.is_number(thing), True, thing)
        for thing in ([(0, 1)], [(1, 1), (0, 1)], [(2, 4)], [(0, 2), (1, 1)], [1], (1, 1), [1, 2], [(1, 0)], ((1, 1),)):
            self.assertIs(kind.is_number(thing), False, repr(thing))

    def test_of_anything(self):
        for under in kinds():
            kind = Polys(under)
            for thing in ODDITIES:
                if not isinstance(thing, list):
                    self.assertIs(kind.is_number(thing), False, repr(thing))
                self.assertIs(kind.is_number([thing]), False, repr(thing))
                self.assertIs(kind.is_number([thing, under.number(1)]), False, repr(thing))
            self.assertIs(kind.is_number([]), True)
            itself = []
            itself.append(itself)
            self.assertIs(kind.is_number(itself), False)

    def test_made_of_top_and_bottom(self):
        self.assertEqual(Polys(SEVEN).number(1, 2), [4])
        self.assertEqual(Polys(SEVEN).number(14), [])
        self.assertEqual(Polys(SEVEN).number(0, 3), [])
        self.assertEqual(Polys(Fractions()).number(6, -4), [(-3, 2)])
        self.assertEqual(Polys(Fractions()).number(top=0, bottom=-4), [])
        for under in kinds():
            kind = Polys(under)
            self.assertEqual((kind.number(0), kind.number(1)), ([], [under.number(1)]))
            for top, bottom in itertools.product(WHOLES, repeat=2):
                if bottom == 0 or isinstance(under, Rests) and bottom % under.prime == 0:
                    refused(self, NoNumber, kind.number, top, bottom)
                else:
                    number = under.number(top, bottom)
                    self.assertEqual(kind.number(top, bottom), [] if under.is_nought(number) else [number])

    def test_reckoning_written_out(self):
        kind = Polys(SEVEN)
        self.assertEqual(kind.plus([1, 2, 3], [6, 5]), [0, 0, 3])
        self.assertEqual(kind.plus([1, 2, 3], [6, 5, 4]), [])
        self.assertEqual(kind.minus([1, 2], [1, 2, 3]), [0, 0, 4])
        self.assertEqual(kind.minus([1, 2, 3], [0, 2, 3]), [1])
        self.assertEqual(kind.times([1, 1], [6, 1]), [6, 0, 1])
        self.assertEqual(kind.times([1, 2, 3], [0, 2]), [0, 2, 4, 6])
        self.assertEqual(kind.back([3]), [5])
        self.assertEqual(kind.over([1, 2], [3]), [5, 3])
        self.assertEqual(Polys(Rests(2)).times([1, 1], [1, 1]), [1, 0, 1])
        self.assertEqual(Polys(Rests(2)).plus([1, 1], [1, 1]), [])
        kind = Polys(Fractions())
        self.assertEqual(kind.times([(1, 2), (1, 1)], [(-1, 2), (1, 1)]), [(-1, 4), (0, 1), (1, 1)])
        self.assertEqual(kind.over([(1, 2), (1, 3)], [(-2, 3)]), [(-3, 4), (-1, 2)])

    def check(self, under, f, g):
        kind = Polys(under)
        self.assertEqual(kind.plus(f, g), sum_poly_by_hand(under, f, g), (f, g))
        self.assertEqual(kind.minus(f, g), sum_poly_by_hand(under, f, g, -1), (f, g))
        self.assertEqual(kind.times(f, g), product_poly_by_hand(under, f, g), (f, g))
        for answer in (kind.plus(f, g), kind.minus(f, g), kind.times(f, g)):
            self.assertIs(kind.is_number(answer), True, (f, g))
        self.assertIs(kind.is_nought(f), f == [])
        if len(g) == 1:
            self.assertEqual(kind.times(kind.back(g), g), kind.number(1))
            self.assertEqual(kind.times(kind.over(f, g), g), f)
            self.assertIs(kind.is_number(kind.over(f, g)), True)
        else:
            refused(self, NoNumber, kind.back, g)
            refused(self, NoNumber, kind.over, f, g)

    def test_many_lengths(self):
        chance = source(191)
        for under in kinds():
            for one, other in itertools.product((0, 1, 2, 3, 6), repeat=2):
                self.check(under, random_poly(chance, under, one), random_poly(chance, under, other))
            f = random_poly(chance, under, 4)
            self.check(under, f, f)
            self.check(under, f, sum_poly_by_hand(under, [], f, -1))
            self.check(under, f, f[:1] + [under.plus(f[1], under.number(1))] + f[2:])

    def test_all_small_ones(self):
        for prime, degrees in ((2, range(4)), (3, range(3))):
            some = [[]] + [f for degree in degrees for f in all_polys(prime, degree)]
            for f, g in itertools.product(some, repeat=2):
                self.check(Rests(prime), f, g)

    def test_thirty_numbers_of_sixty_figures(self):
        chance = source(192)
        for under in (Fractions(), Rests(2), Rests(999983)):
            self.check(under, random_poly(chance, under, 30, 60), random_poly(chance, under, 30, 60))
            self.check(under, random_poly(chance, under, 30, 60), random_poly(chance, under, 1, 60))


class Divided(unittest.TestCase):

    def check(self, kind, f, g):
        answer = divided(kind, f, g)
        self.assertIs(type(answer), tuple)
        q, r = answer
        for each in answer:
            self.assertIs(Polys(kind).is_number(each), True, (f, g))
        self.assertLess(len(r), len(g))
        self.assertEqual(sum_poly_by_hand(kind, product_poly_by_hand(kind, q, g), r), f)

    def test_written_out(self):
        self.assertEqual(divided(SEVEN, [6, 0, 1], [1, 1]), ([6, 1], []))
        self.assertEqual(divided(SEVEN, [1, 0, 1], [1, 1]), ([6, 1], [2]))
        self.assertEqual(divided(SEVEN, [1, 2], [1, 2, 3]), ([], [1, 2]))
        self.assertEqual(divided(SEVEN, [], [3]), ([], []))
        self.assertEqual(divided(SEVEN, [4, 5], [3]), ([6, 4], []))
        self.assertEqual(divided(Fractions(), whole_poly(1, 0, 1), whole_poly(1, 2)), ([(-1, 4), (1, 2)], [(5, 4)]))
        self.assertEqual(divided(Rests(2), [1, 0, 0, 1, 1], [1, 1, 1]), ([1, 0, 1], [0, 1]))

    def test_many_lengths(self):
        chance = source(201)
        for kind in kinds():
            for one, other in itertools.product((0, 1, 2, 3, 5, 8), (1, 2, 3, 5, 8)):
                f, g = random_poly(chance, kind, one), random_poly(chance, kind, other)
                self.check(kind, f, g)
                product = product_poly_by_hand(kind, f, g)
                self.assertEqual(divided(kind, product, g), (f, []))

    def test_all_small_ones(self):
        for prime, degrees in ((2, range(5)), (3, range(3))):
            some = [f for degree in degrees for f in all_polys(prime, degree)]
            for f, g in itertools.product([[]] + some, some):
                self.check(Rests(prime), f, g)

    def test_thirty_numbers_of_sixty_figures(self):
        chance = source(202)
        for kind in (Fractions(), Rests(2), Rests(999983)):
            for count in (1, 2, 28, 29, 30):
                self.check(kind, random_poly(chance, kind, 30, 60), random_poly(chance, kind, count, 60))
            self.check(kind, random_poly(chance, kind, 30), random_poly(chance, kind, 15))

    def test_by_nought(self):
        for kind in kinds():
            for count in (0, 1, 2, 30):
                refused(self, NoNumber, divided, kind, random_poly(source(1), kind, count), [])


class Common(unittest.TestCase):

    def check(self, kind, f, g):
        answer = common(kind, f, g)
        self.assertIs(type(answer), tuple)
        self.assertEqual(len(answer), 3)
        for each in answer:
            self.assertIs(Polys(kind).is_number(each), True, (f, g))
        d, u, v = answer
        left, right = product_poly_by_hand(kind, u, f), product_poly_by_hand(kind, v, g)
        self.assertEqual(sum_poly_by_hand(kind, left, right), d)
        if f == [] and g == []:
            self.assertEqual(d, [])
        else:
            self.assertEqual(d[-1], kind.number(1))
            self.assertEqual(divided(kind, f, d)[1], [])
            self.assertEqual(divided(kind, g, d)[1], [])
        return d

    def test_written_out(self):
        self.assertEqual(self.check(SEVEN, [6, 0, 1], [1, 2, 1]), [1, 1])
        self.assertEqual(self.check(SEVEN, [3], [0, 1]), [1])
        self.assertEqual(self.check(SEVEN, [], [0, 3]), [0, 1])
        self.assertEqual(self.check(SEVEN, [2, 3], []), [3, 1])
        self.assertEqual(self.check(SEVEN, [], [5]), [1])
        self.assertEqual(self.check(SEVEN, [], []), [])
        self.assertEqual(self.check(Fractions(), whole_poly(-2, 0, 2), whole_poly(3, 3)), whole_poly(1, 1))
        self.assertEqual(self.check(Rests(2), [1, 0, 1], [1, 1]), [1, 1])

    def test_many_lengths(self):
        chance = source(203)
        for kind in kinds():
            for one, other in itertools.product((0, 1, 2, 3, 4, 7), repeat=2):
                f, g = random_poly(chance, kind, one), random_poly(chance, kind, other)
                self.check(kind, f, g)
                for degree in (1, 3):
                    shared = monic_poly(chance, kind, degree)
                    left, right = product_poly_by_hand(kind, f, shared), product_poly_by_hand(kind, g, shared)
                    whole = self.check(kind, left, right)
                    if left or right:
                        self.assertEqual(divided(kind, whole, shared)[1], [])
                self.check(kind, f, f)
                self.check(kind, f, product_poly_by_hand(kind, f, f))

    def test_no_common_part_is_longer(self):
        for prime, degrees in ((2, range(5)), (3, range(4))):
            some = [f for degree in degrees for f in all_polys(prime, degree)]
            parts = {tuple(f): [tuple(g) for g in some if divided(Rests(prime), f, g)[1] == []] for f in some}
            for f, g in itertools.product(some[::3], some[::2]):
                longest = max(set(parts[tuple(f)]) & set(parts[tuple(g)]), key=len)
                self.assertEqual(tuple(self.check(Rests(prime), f, g)), longest)

    def test_degrees_that_fall_by_more_than_one(self):
        for kind in kinds():
            one, nought = kind.number(1), kind.number(0)
            for high, low in ((7, 3), (8, 5), (6, 6), (9, 1)):
                f = [one] + [nought] * (high - 1) + [one]
                g = [kind.number(-1)] + [nought] * (low - 1) + [kind.number(2) if kind.number(2) != nought else one]
                self.check(kind, f, g)
                self.check(kind, g, f)
                self.check(kind, f, f[:1] + [one] + f[2:])

    def test_thirty_numbers_of_sixty_figures(self):
        chance = source(204)
        for kind in (Rests(2), Rests(7), Rests(999983)):
            self.check(kind, random_poly(chance, kind, 30), random_poly(chance, kind, 30))
        f, g = ([(chance.randint(1, SIXTY), 1) for place in range(30)] for each in range(2))
        self.assertEqual(self.check(Fractions(), f, g), [(1, 1)])
        self.check(Fractions(), random_poly(chance, Fractions(), 30), random_poly(chance, Fractions(), 29))
        shared = random_poly(chance, Fractions(), 3, 60)
        left, right = ([(each, 1), (1, 1)] for each in (5, 6))
        sides = [product_poly_by_hand(Fractions(), shared, each) for each in (left, right)]
        self.assertEqual(len(self.check(Fractions(), sides[0], sides[1])), 3)


class Values(unittest.TestCase):

    def test_at_a_number_written_out(self):
        self.assertEqual(value_at(SEVEN, [1, 2, 3], 2), 3)
        self.assertEqual(value_at(SEVEN, [], 5), 0)
        self.assertEqual(value_at(SEVEN, [4], 5), 4)
        self.assertEqual(value_at(SEVEN, [4, 1], 0), 4)
        self.assertEqual(value_at(Fractions(), whole_poly(1, 0, 1), (1, 2)), (5, 4))
        self.assertEqual(value_at(Fractions(), [], (1, 2)), (0, 1))

    def test_at_many_numbers(self):
        chance = source(211)
        for kind in kinds():
            for count in (0, 1, 2, 3, 7, 30):
                f, number = random_poly(chance, kind, count, 20), random_number(chance, kind, 20)
                total = sum([worth(kind, each) * worth(kind, number) ** k for k, each in enumerate(f)])
                answer = value_at(kind, f, number)
                self.assertIs(kind.is_number(answer), True)
                self.assertEqual(answer, told(kind, total + worth(kind, kind.number(0))))

    def test_sixty_figures(self):
        chance, kind = source(212), Fractions()
        f, number = random_poly(chance, kind, 30, 60), random_number(chance, kind)
        rest = divided(kind, f, [kind.minus(kind.number(0), number), kind.number(1)])[1]
        self.assertEqual([value_at(kind, f, number)], rest)

    def test_at_a_table_written_out(self):
        self.assertEqual(table_at(SEVEN, [1, 2, 3], [[1, 1], [0, 1]]), [[6, 1], [0, 6]])
        self.assertEqual(table_at(SEVEN, [], [[1, 1], [0, 1]]), [[0, 0], [0, 0]])
        self.assertEqual(table_at(SEVEN, [3], [[1, 1], [0, 1]]), [[3, 0], [0, 3]])
        self.assertEqual(table_at(SEVEN, [0, 1], [[1, 2], [3, 4]]), [[1, 2], [3, 4]])
        self.assertEqual(table_at(Fractions(), whole_poly(1, 0, 1), [[(1, 2)]]), [[(5, 4)]])

    def test_at_many_tables(self):
        chance = source(213)
        for kind in kinds():
            for size in (1, 2, 3, 7):
                for count in (0, 1, 2, 3, 5):
                    f, table = random_poly(chance, kind, count), random_table(chance, kind, size, size, 1)
                    answer = table_at(kind, f, table)
                    self.assertIs(is_table(kind, answer), True)
                    self.assertEqual(answer, table_at_by_hand(kind, f, table))

    def test_at_great_tables(self):
        chance = source(214)
        for kind in (Fractions(), Rests(2), Rests(999983)):
            f, table = random_poly(chance, kind, 30, 60), random_table(chance, kind, 7, 7, 1)
            self.assertEqual(table_at(kind, f, table), table_at_by_hand(kind, f, table))
            f, table = random_poly(chance, kind, 3, 60), random_table(chance, kind, 3, 3, 60)
            self.assertEqual(table_at(kind, f, table), table_at_by_hand(kind, f, table))

    def test_products_of_polynomials(self):
        chance = source(215)
        for kind in kinds():
            f, g = random_poly(chance, kind, 3), random_poly(chance, kind, 4)
            table = random_table(chance, kind, 4, 4, 1)
            product = product_poly_by_hand(kind, f, g)
            parts = table_at(kind, f, table), table_at(kind, g, table)
            self.assertEqual(table_at(kind, product, table), times_table(kind, parts[0], parts[1]))
            number = random_number(chance, kind)
            self.assertEqual(table_at(kind, f, [[number]]), [[value_at(kind, f, number)]])
            multiple = scaled(kind, number, unit(kind, 3))
            self.assertEqual(table_at(kind, f, multiple), scaled(kind, value_at(kind, f, number), unit(kind, 3)))

    def test_not_square(self):
        for kind in kinds():
            for rows, columns in itertools.product(range(1, 8), repeat=2):
                if rows != columns:
                    for f in ([], [kind.number(1)], [kind.number(0), kind.number(1)]):
                        refused(self, NoFit, table_at, kind, f, noughts(kind, rows, columns))


class AskersOwn(unittest.TestCase):

    def test_numbers_are_new(self):
        chance = source(2)
        for under in kinds():
            kind, one, f = Polys(under), [under.number(1)], random_poly(chance, under, 3)
            for call in (kind.plus, kind.minus, kind.times):
                for some, others in ((f, []), ([], f), (f, one), (one, f), (f, f), ([], [])):
                    check_own(self, call, [some, others])
            check_own(self, kind.over, [f, one])
            check_own(self, kind.back, [one])
            check_own(self, kind.number, [0])
            check_own(self, kind.number, [1])

    def test_answers_are_new_and_what_was_handed_in_is_as_it_was(self):
        chance = source(22)
        for kind in kinds():
            one = [kind.number(1)]
            f, g = monic_poly(chance, kind, 3), monic_poly(chance, kind, 2)
            for some, others in ((f, g), (g, f), (f, f), (f, one), (one, f), ([], f), (one, one)):
                check_own(self, divided, [kind, some, others])
                check_own(self, common, [kind, some, others])
            check_own(self, common, [kind, f, []])
            check_own(self, common, [kind, [], []])
            table = random_table(chance, kind, 3, 3, 5)
            for some in ([], one, [kind.number(0)] + one, f):
                check_own(self, table_at, [kind, some, table])
                check_own(self, value_at, [kind, some, random_row(chance, kind, 1)[0]])

    def test_a_refusal_changes_nothing(self):
        f, table = [1, 2], [[1, 2]]
        refused(self, NoNumber, divided, SEVEN, f, [])
        refused(self, NoNumber, Polys(SEVEN).back, f)
        refused(self, NoNumber, Polys(SEVEN).over, f, f)
        refused(self, NoFit, table_at, SEVEN, f, table)
        self.assertEqual((f, table), ([1, 2], [[1, 2]]))


if __name__ == "__main__":
    unittest.main()
