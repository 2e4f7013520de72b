import math
import unittest

from samples import ODDITIES, SIXTY, WHOLES, random_whole, source

from turnframe.wholes import divisor, is_prime, is_whole, shares


def primes_below(bound):
    """A sieve: at each place whether it is prime."""
    marks = [False, False] + [True] * (bound - 2)
    for each in range(2, math.isqrt(bound) + 1):
        if marks[each]:
            marks[each * each::each] = [False] * len(range(each * each, bound, each))
    return marks


class Wholes(unittest.TestCase):

    def test_ints_are_whole(self):
        for number in WHOLES:
            self.assertIs(is_whole(number), True, number)

    def test_truths_are_not_whole(self):
        self.assertIs(is_whole(True), False)
        self.assertIs(is_whole(False), False)

    def test_nothing_else_is_whole(self):
        for thing in ODDITIES:
            self.assertIs(is_whole(thing), False, repr(thing))


class Shares(unittest.TestCase):

    def check(self, one, other):
        answer = shares(one, other)
        self.assertIs(type(answer), tuple)
        self.assertEqual([type(each) for each in answer], [int, int, int])
        d, u, v = answer
        self.assertEqual(d, math.gcd(one, other), (one, other))
        self.assertEqual(d, u * one + v * other, (one, other))
        self.assertEqual(divisor(one, other), d)
        self.assertIs(type(divisor(one, other)), int)

    def test_written_out(self):
        self.assertEqual(divisor(12, 18), 6)
        self.assertEqual(divisor(-12, 18), 6)
        self.assertEqual(divisor(12, -18), 6)
        self.assertEqual(divisor(-12, -18), 6)
        self.assertEqual(divisor(0, 0), 0)
        self.assertEqual(divisor(0, -5), 5)
        self.assertEqual(divisor(-5, 0), 5)
        self.assertEqual(shares(0, 0)[0], 0)
        self.assertEqual(shares(240, 46)[0], 2)

    def test_edges(self):
        for one in WHOLES:
            for other in WHOLES:
                self.check(one, other)

    def test_all_small_ones(self):
        for one in range(-30, 31):
            for other in range(-30, 31):
                self.check(one, other)

    def test_sixty_figures(self):
        chance = source(4)
        for turn in range(200):
            common = random_whole(chance, 30)
            self.check(common * random_whole(chance, 30), common * random_whole(chance, 30))
            self.check(random_whole(chance, 60), random_whole(chance, 60))


class Primes(unittest.TestCase):

    def test_written_out(self):
        primes = [number for number in range(-10, 60) if is_prime(number)]
        self.assertEqual(primes, [2, 3, 5, 7, 11, 13, 17, 19, 23, 29, 31, 37, 41, 43, 47, 53, 59])

    def test_every_number_below_the_bound(self):
        for number, prime in enumerate(primes_below(1000000)):
            if is_prime(number) is not prime:
                self.fail(f"{number} is told wrongly")

    def test_none_below_two(self):
        for number in (1, 0, -1, -2, -3, -7, -999983, -SIXTY):
            self.assertIs(is_prime(number), False, number)

    def test_squares_of_primes(self):
        for prime in (2, 3, 5, 7, 11, 31, 97, 101, 991, 997):
            self.assertIs(is_prime(prime), True, prime)
            self.assertIs(is_prime(prime * prime), False, prime)

    def test_right_below_the_bound(self):
        found = [number for number in range(999950, 1000000) if is_prime(number)]
        self.assertEqual(found, [999953, 999959, 999961, 999979, 999983])


if __name__ == "__main__":
    unittest.main()
