import unittest
from fractions import Fraction

from samples import ODDITIES, PRIMES, SIXTY, WHOLES, kinds, random_number, random_whole, refused, source, told, worth

from turnframe.errors import NoKind, NoNumber
from turnframe.kinds import Fractions, Kind, Rests


class WhatKindsThereAre(unittest.TestCase):

    def test_both_stand_under_kind_and_neither_under_the_other(self):
        self.assertTrue(issubclass(Fractions, Kind))
        self.assertTrue(issubclass(Rests, Kind))
        self.assertFalse(issubclass(Fractions, Rests))
        self.assertFalse(issubclass(Rests, Fractions))
        self.assertIsInstance(Kind(), Kind)

    def test_rests_have_their_prime(self):
        for prime in PRIMES:
            self.assertEqual(Rests(prime).prime, prime)
        self.assertEqual(Rests(prime=7).prime, 7)

    def test_kinds_do_not_change_one_another(self):
        seven = Rests(7)
        Rests(11)
        self.assertEqual((seven.prime, seven.plus(6, 6)), (7, 5))

    def test_wholes_that_are_no_prime_are_refused(self):
        for number in (0, 1, 4, 6, 9, 15, 49, 561, 994009, 999981, 999999, -1, -2, -7, -999983):
            refused(self, NoKind, Rests, number)

    def test_from_the_bound_on_all_are_refused(self):
        primes = (1000003, 1000033, 2147483647, 2 ** 61 - 1, 2 ** 127 - 1)
        for number in primes + (1000000, 1000001, 1000003 ** 2, 10 ** 59 + 7, SIXTY, -SIXTY, 10 ** 5000):
            refused(self, NoKind, Rests, number)

    def test_other_things_are_refused(self):
        for thing in ODDITIES:
            refused(self, NoKind, Rests, thing)

    def test_behind_a_refusal_all_is_as_ever(self):
        for thing in (4, 1000003, "7", None):
            refused(self, NoKind, Rests, thing)
            self.assertEqual(Rests(7).number(1, 2), 4)


class WhatIsANumber(unittest.TestCase):

    def test_fractions(self):
        kind = Fractions()
        for thing in ((0, 1), (1, 1), (-1, 1), (1, 2), (-7, 3), (SIXTY, SIXTY - 1), (-SIXTY, 10 ** 59)):
            self.assertIs(kind.is_number(thing), True, thing)
        others = (
            (0, 2), (2, 2), (2, 4), (-2, 4), (1, 0), (0, 0), (1, -2), (-1, -1), (0, -1), (SIXTY, 9), (SIXTY, SIXTY),
            [1, 2], (1,), (1, 2, 1), (True, 1), (1, True), (False, 1), (True, 2), 0, 1, -5,
        )
        for thing in others + ODDITIES:
            self.assertIs(kind.is_number(thing), False, repr(thing))

    def test_rests(self):
        for prime in PRIMES:
            kind = Rests(prime)
            for thing in (0, 1, prime - 1, prime // 2):
                self.assertIs(kind.is_number(thing), True, (prime, thing))
            for thing in (-1, prime, prime + 1, -prime, SIXTY, -SIXTY, (0, 1), (1, 1), (1, 2)) + ODDITIES:
                self.assertIs(kind.is_number(thing), False, (prime, repr(thing)))

    def test_rests_by_seven_are_seven(self):
        kind = Rests(7)
        self.assertEqual([number for number in range(-20, 20) if kind.is_number(number)], [0, 1, 2, 3, 4, 5, 6])


class NumbersMade(unittest.TestCase):

    def test_fractions_written_out(self):
        kind = Fractions()
        self.assertEqual(kind.number(6, 4), (3, 2))
        self.assertEqual(kind.number(6, -4), (-3, 2))
        self.assertEqual(kind.number(-6, -4), (3, 2))
        self.assertEqual(kind.number(-6, 3), (-2, 1))
        self.assertEqual(kind.number(0, -9), (0, 1))
        self.assertEqual(kind.number(5), (5, 1))
        self.assertEqual(kind.number(top=5, bottom=10), (1, 2))

    def test_rests_written_out(self):
        kind = Rests(7)
        self.assertEqual(kind.number(1, 2), 4)
        self.assertEqual(kind.number(-1), 6)
        self.assertEqual(kind.number(3, -2), 2)
        self.assertEqual(kind.number(0, 5), 0)
        self.assertEqual(kind.number(14, 3), 0)
        self.assertEqual(kind.number(7 ** 70 + 3), 3)
        self.assertEqual(kind.number(top=1, bottom=3), 5)

    def test_nought_and_one(self):
        for kind in kinds():
            nought, one = kind.number(0), kind.number(1)
            self.assertEqual(nought, 0 if isinstance(kind, Rests) else (0, 1))
            self.assertEqual(one, 1 if isinstance(kind, Rests) else (1, 1))
            self.assertIs(kind.is_nought(nought), True)
            self.assertIs(kind.is_nought(one), False)

    def check(self, kind, top, bottom):
        made = kind.number(top, bottom)
        self.assertIs(kind.is_number(made), True, (top, bottom))
        if isinstance(kind, Rests):
            self.assertIs(type(made), int)
            self.assertEqual((made * bottom - top) % kind.prime, 0, (kind.prime, top, bottom))
        else:
            whole = Fraction(top, bottom)
            self.assertEqual(made, (whole.numerator, whole.denominator))

    def test_edges_and_sixty_figures(self):
        chance = source(7)
        wholes = WHOLES + tuple([random_whole(chance, 60) for turn in range(20)])
        for kind in kinds():
            for top in wholes:
                self.assertEqual(kind.number(top), kind.number(top, 1))
                for bottom in wholes:
                    if bottom == 0 or isinstance(kind, Rests) and bottom % kind.prime == 0:
                        refused(self, NoNumber, kind.number, top, bottom)
                    else:
                        self.check(kind, top, bottom)

    def test_bottoms_that_the_prime_divides(self):
        for prime in PRIMES:
            kind = Rests(prime)
            for factor in (0, 1, -1, 2, prime, -prime, 10 ** 50 + 9):
                for top in (0, 1, -1, prime, SIXTY):
                    refused(self, NoNumber, kind.number, top, factor * prime)
            self.assertEqual(kind.number(1, prime + 1), 1)

    def test_a_bottom_of_nought(self):
        for kind in kinds():
            for top in WHOLES:
                refused(self, NoNumber, kind.number, top, 0)
            self.assertEqual(kind.number(1, 1), kind.number(1))


class Reckoning(unittest.TestCase):

    def check(self, kind, one, other):
        left, right = worth(kind, one), worth(kind, other)
        self.assertEqual(kind.plus(one, other), told(kind, left + right), (one, other))
        self.assertEqual(kind.minus(one, other), told(kind, left - right), (one, other))
        self.assertEqual(kind.times(one, other), told(kind, left * right), (one, other))
        for answer in (kind.plus(one, other), kind.minus(one, other), kind.times(one, other)):
            self.assertIs(kind.is_number(answer), True, (one, other))
        self.assertIs(kind.is_nought(one), left == 0)
        if right == 0:
            refused(self, NoNumber, kind.back, other)
            refused(self, NoNumber, kind.over, one, other)
        else:
            self.check_backs(kind, one, other)

    def check_backs(self, kind, one, other):
        back, quotient = kind.back(other), kind.over(one, other)
        self.assertIs(kind.is_number(back), True, other)
        self.assertIs(kind.is_number(quotient), True, (one, other))
        self.assertEqual(kind.times(other, back), kind.number(1), other)
        self.assertEqual(kind.times(quotient, other), one, (one, other))

    def test_written_out(self):
        kind = Fractions()
        self.assertEqual(kind.plus((1, 2), (1, 6)), (2, 3))
        self.assertEqual(kind.minus((1, 2), (1, 6)), (1, 3))
        self.assertEqual(kind.minus((1, 6), (1, 2)), (-1, 3))
        self.assertEqual(kind.times((2, 3), (-9, 4)), (-3, 2))
        self.assertEqual(kind.back((-2, 3)), (-3, 2))
        self.assertEqual(kind.over((1, 2), (-3, 4)), (-2, 3))
        self.assertEqual(kind.plus((5, 6), (-5, 6)), (0, 1))
        self.assertEqual(kind.times((0, 1), (5, 6)), (0, 1))
        kind = Rests(7)
        self.assertEqual((kind.plus(5, 4), kind.minus(2, 5), kind.times(5, 3)), (2, 4, 1))
        self.assertEqual((kind.back(3), kind.over(1, 3), kind.over(2, 6)), (5, 5, 5))
        self.assertEqual(Rests(2).back(1), 1)

    def test_all_rests_by_small_primes(self):
        for prime in (2, 3, 5, 7, 11, 13):
            kind = Rests(prime)
            for one in range(prime):
                for other in range(prime):
                    self.check(kind, one, other)

    def test_all_small_fractions(self):
        kind = Fractions()
        some = [kind.number(top, bottom) for top in range(-6, 7) for bottom in range(1, 7)]
        for one in some:
            for other in some:
                self.check(kind, one, other)

    def test_sixty_figures_and_great_primes(self):
        chance = source(8)
        for kind in kinds():
            for turn in range(100):
                self.check(kind, random_number(chance, kind), random_number(chance, kind))

    def test_fractions_that_share_much(self):
        chance = source(88)
        kind = Fractions()
        for turn in range(200):
            common = 0
            while common == 0:
                common = random_whole(chance, 20)
            tops = [random_whole(chance, 4) * chance.choice((1, common)) for each in range(2)]
            bottoms = [chance.randint(1, 60) * chance.choice((1, common)) for each in range(2)]
            self.check(kind, kind.number(tops[0], bottoms[0]), kind.number(tops[1], bottoms[1]))

    def test_nought_has_no_back(self):
        for kind in kinds():
            refused(self, NoNumber, kind.back, kind.number(0))
            for top in (0, 1, 5, -3):
                refused(self, NoNumber, kind.over, kind.number(top), kind.number(0))
            self.assertEqual(kind.over(kind.number(0), kind.number(1)), kind.number(0))
            self.assertEqual(kind.back(kind.number(1)), kind.number(1))


if __name__ == "__main__":
    unittest.main()
