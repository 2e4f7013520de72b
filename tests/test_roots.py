import copy
import itertools
import unittest
from fractions import Fraction

from samples import (
    check_own, near_kinds, poly_with_roots, random_number, random_poly, source, told, worth,
)

from turnframe.kinds import Fractions, Rests
from turnframe.polys import value_at
from turnframe.roots import roots

FRACTIONS = Fractions()
TWO = Rests(2)
SEVEN = Rests(7)


def fraction_poly(*numbers):
    return [told(FRACTIONS, Fraction(each)) for each in numbers]


def times_by_hand(kind, f, root):
    """How often the polynomial can be divided by x less the root: from the highest power down, till a rest is left."""
    numbers, times = [worth(kind, each) for each in f], 0
    while len(numbers) > 1:
        row = [numbers[-1]]
        for each in reversed(numbers[:-1]):
            row.append(each + row[-1] * worth(kind, root))
        if told(kind, row.pop()) != kind.number(0):
            break
        numbers, times = row[::-1], times + 1
    return times


def primorial(bound):
    product = 1
    for each in range(2, bound):
        if all([each % other for other in range(2, each)]):
            product *= each
    return product


class Written(unittest.TestCase):

    def test_rests(self):
        self.assertEqual(roots(SEVEN, [6, 2, 1]), [(2, 1), (3, 1)])
        self.assertEqual(roots(SEVEN, [5, 4, 2]), [(2, 1), (3, 1)])
        self.assertEqual(roots(SEVEN, [4, 3, 1]), [(2, 2)])
        self.assertEqual(roots(SEVEN, [0, 1]), [(0, 1)])
        self.assertEqual(roots(SEVEN, [0, 0, 0, 0, 0, 0, 0, 5]), [(0, 7)])
        self.assertEqual(roots(SEVEN, [0, 6, 0, 0, 0, 0, 0, 1]), [(number, 1) for number in range(7)])
        self.assertEqual(roots(SEVEN, [1, 0, 1]), [])
        self.assertEqual(roots(SEVEN, [3]), [])
        self.assertEqual(roots(TWO, [1]), [])
        self.assertEqual(roots(TWO, [1, 1]), [(1, 1)])
        self.assertEqual(roots(TWO, [1, 1, 1]), [])
        self.assertEqual(roots(TWO, [0, 1, 1]), [(0, 1), (1, 1)])
        self.assertEqual(roots(TWO, [1, 0, 0, 0, 1]), [(1, 4)])
        self.assertEqual(roots(TWO, [0, 1, 0, 1, 0, 1, 0, 1]), [(0, 1), (1, 6)])
        self.assertEqual(roots(Rests(3), [2, 0, 0, 1]), [(1, 3)])

    def test_fractions(self):
        for f, expected in (
            ((1,), []), ((-5,), []), (("2/3",), []),
            ((0, 1), [((0, 1), 1)]), ((0, "-1/7"), [((0, 1), 1)]), ((0, 0, 0, 0, 0, 0, 0, 2), [((0, 1), 7)]),
            ((1, 2), [((-1, 2), 1)]), (("2/3", "-3/5"), [((10, 9), 1)]),
            ((6, -5, 1), [((2, 1), 1), ((3, 1), 1)]), ((1, -5, 6), [((1, 3), 1), ((1, 2), 1)]),
            ((-1, 0, 4), [((-1, 2), 1), ((1, 2), 1)]), ((1, 4, 4), [((-1, 2), 2)]),
            ((1, 0, 1), []), ((-2, 0, 1), []), ((2, 0, 0, 1), []), ((1, 1, 1), []), ((1, 0, 2, 0, 1), []),
            ((0, 2, 0, 1), [((0, 1), 1)]), ((-1, 0, 0, 1), [((1, 1), 1)]),
            ((0, 0, 4, 4, 1), [((-2, 1), 2), ((0, 1), 2)]),
            ((-1, 0, 0, 0, 0, 0, 0, 1), [((1, 1), 1)]), ((1, 0, 0, 0, 0, 0, 1), []),
            ((-720, 1764, -1624, 735, -175, 21, -1), [((each, 1), 1) for each in range(1, 7)]),
        ):
            self.assertEqual(roots(FRACTIONS, fraction_poly(*f)), expected, f)

    def test_kinds_of_what_is_told(self):
        for kind, f in ((FRACTIONS, fraction_poly(6, -5, 1)), (SEVEN, [6, 2, 1])):
            answer = roots(kind, f)
            self.assertIs(type(answer), list)
            for each in answer:
                self.assertEqual((type(each), len(each), type(each[1])), (tuple, 2, int))
                self.assertIs(kind.is_number(each[0]), True)


class WithRests(unittest.TestCase):

    def check(self, kind, f):
        expected = [(number, times_by_hand(kind, f, number)) for number in range(kind.prime)]
        self.assertEqual(roots(kind, f), [each for each in expected if each[1] > 0], (kind.prime, f))

    def test_all_polynomials(self):
        for prime, most in ((2, 8), (3, 5), (5, 4), (7, 3)):
            for numbers in itertools.product(range(prime), repeat=most):
                f = list(numbers)
                if f[-1] != 0:
                    self.check(Rests(prime), f)

    def test_eight_numbers(self):
        chance = source(311)
        for prime in (2, 3, 5, 7, 11, 13, 101, 499, 997):
            kind = Rests(prime)
            for count in (1, 2, 3, 5, 8, 8, 8):
                self.check(kind, random_poly(chance, kind, count))

    def test_products(self):
        chance = source(312)
        for prime in (2, 3, 7, 101, 997):
            kind = Rests(prime)
            for sizes in ((1,), (7,), (1, 1, 1, 1, 1, 1, 1), (3, 4), (2, 2, 3), (1, 2), (6, 1)):
                some = [(random_number(chance, kind), size) for size in sizes]
                f = poly_with_roots(kind, some, [chance.randrange(1, prime)])
                self.check(kind, f)
                expected = {}
                for root, size in some:
                    expected[root] = expected.get(root, 0) + size
                self.assertEqual(roots(kind, f), sorted(expected.items()))


class WithFractions(unittest.TestCase):

    def check(self, some, factor):
        """The roots of a product are those it is made of, where the other factor has none."""
        f = poly_with_roots(FRACTIONS, some, factor)
        expected = sorted(some, key=lambda each: Fraction(*each[0]))
        self.assertEqual(roots(FRACTIONS, f), expected)
        for root, times in expected:
            self.assertEqual(value_at(FRACTIONS, f, root), (0, 1))
            self.assertEqual(times_by_hand(FRACTIONS, f, root), times)

    def test_products(self):
        chance = source(313)
        rootless = [fraction_poly(*each) for each in (
            (1,), ("-3/7",), (1, 0, 1), (-2, 0, 1), (1, 1, 1), ("1/2", 0, "-1/9"), (2, 0, 0, 3), (1, 0, 0, 0, 1),
            (1, 0, 2, 0, 1), (2, 4, 0, 0, 4), (4, 0, -4, 0, 1), (1, 0, 0, 0, 0, 0, 1))]
        for figures in (1, 2, 5, 9):
            for factor, turn in itertools.product(rootless, range(6)):
                left, some = 8 - len(factor), {}
                while left > 0 and chance.random() < 0.9:
                    times = chance.randint(1, left)
                    some[random_number(chance, FRACTIONS, figures)] = times
                    left -= times
                self.check(list(some.items()), factor)

    def test_sixty_figures_above_and_below(self):
        top, bottom = 10 ** 60 - 1, 10 ** 60 - 2
        self.check([((top, bottom), 1)], [(1, 1)])
        self.check([((-top, bottom), 1)], [(-5, 3)])
        self.assertEqual(roots(FRACTIONS, [(top, 1), (bottom, 1)]), [((-top, bottom), 1)])
        self.assertEqual(roots(FRACTIONS, [(top, bottom), (-1, 1)]), [((top, bottom), 1)])
        self.assertEqual(roots(FRACTIONS, [(top, bottom), (bottom, 1)]), [((-top, bottom ** 2), 1)])
        self.check([((10 ** 59 + 9, 10 ** 59 + 8), 1), ((-1, 3), 4)], [(1, 1), (0, 1), (1, 1)])
        self.check([((10 ** 59 + 9, 1), 2), ((1, 10 ** 59 + 7), 2)], [(1, 1), (1, 1), (1, 1)])
        # Near one another: apart only in the last figures.
        self.check([((10 ** 29 + each, 10 ** 29), 1) for each in (1, 3, 7)], [(1, 1)])
        self.check([((10 ** 29 + 1, 10 ** 29), 1), ((10 ** 29 + 2, 10 ** 29 + 1), 1)], [(1, 1), (0, 1), (1, 1)])
        self.check([((-10 ** 20 - each, 10 ** 20 + 1), each) for each in (2, 3)], [(7, 2)])

    def test_great_numbers_without_a_root(self):
        chance = source(314)
        for count in (2, 3, 5, 8):
            f = random_poly(chance, FRACTIONS, count, 60)
            for root, times in roots(FRACTIONS, f):
                self.assertEqual(times, times_by_hand(FRACTIONS, f, root))
            self.assertEqual(len(roots(FRACTIONS, f)), 1 if count == 2 else 0)
        square = 10 ** 58 + 2 * 10 ** 29 + 1
        self.check([((-10 ** 29 - 1, 1), 1), ((10 ** 29 + 1, 1), 1)], [(1, 1)])
        self.assertEqual(len(roots(FRACTIONS, [(-square, 1), (0, 1), (1, 1)])), 2)
        self.assertEqual(roots(FRACTIONS, [(1 - square, 1), (0, 1), (1, 1)]), [])
        self.assertEqual(roots(FRACTIONS, [(square, 1), (0, 1), (1, 1)]), [])

    def test_many_primes_that_do_not_serve(self):
        # By each of the first primes the roots leave the same rest, or the degree falls.
        product = primorial(140)
        self.check([((product, 1), 1), ((-product, 1), 1)], [(1, 1)])
        self.check([((product * each, 1), 1) for each in range(-3, 4)], [(1, 1)])
        self.check([((1, product), 1), ((2, product + 1), 2), ((product - 1, product), 1)], [(product, 1)])
        self.assertEqual(roots(FRACTIONS, [(-product, 1), (0, 1), (1, 1)]), [])
        self.assertEqual(roots(FRACTIONS, [(-1, 1), (0, 1), (product, 1)]), [])

    def test_order_of_worth(self):
        some = [Fraction(each) for each in ("-7/2", "-3", "-1/10", "0", "1/3", "1/2", "10")]
        for order in list(itertools.permutations(some))[::500]:
            f = poly_with_roots(FRACTIONS, [(told(FRACTIONS, each), 1) for each in order])
            self.assertEqual(roots(FRACTIONS, f), [(told(FRACTIONS, each), 1) for each in some])


class AskersOwn(unittest.TestCase):

    def test_answers_are_new_and_what_was_handed_in_is_as_it_was(self):
        chance = source(2)
        for kind in near_kinds():
            some = [(random_number(chance, kind, 3), 2), (kind.number(0), 5)]
            for f in (random_poly(chance, kind, 1), random_poly(chance, kind, 5), poly_with_roots(kind, some)):
                before = copy.deepcopy(f)
                check_own(self, roots, [kind, f])
                self.assertEqual(f, before)


if __name__ == "__main__":
    unittest.main()
