import copy
import itertools
import unittest

from samples import (
    all_tables, check_own, kinds, low_table, noughts, random_number, random_row, random_table, reduced_by_hand,
    refused, source, square_tables, times_by_hand, times_table_by_hand, told, tolds, unit_by_hand, worth, worths,
)

from turnframe.errors import NoFit, NoInverse
from turnframe.kinds import Fractions, Rests
from turnframe.powers import power, row_at

TWO = Rests(2)
SEVEN = Rests(7)
FAR = (10 ** 60 - 1, 10 ** 59, 2 ** 199, 2 ** 199 - 1, 123456789 ** 7)


def rests():
    return [kind for kind in kinds() if isinstance(kind, Rests)]


def power_by_hand(kind, A, n):
    """The power by the halves of n, with rests."""
    if n == 0:
        return unit_by_hand(kind, len(A))
    half = power_by_hand(kind, A, n // 2)
    both = times_table_by_hand(kind, half, half)
    return times_table_by_hand(kind, both, A) if n % 2 else both


def full_table(chance, kind, size, figures=1):
    A = random_table(chance, kind, size, size, figures)
    while len(reduced_by_hand(kind, A)[1]) < size:
        A = random_table(chance, kind, size, size, figures)
    return A


def row_by_hand(kind, rule, firsts, count):
    """The first numbers of the row, one by one."""
    numbers = [worth(kind, each) for each in firsts]
    while len(numbers) < count:
        ahead = numbers[:-len(rule) - 1:-1]
        numbers.append(worth(kind, told(kind, sum([worth(kind, c) * each for c, each in zip(rule, ahead)]))))
    return [told(kind, each) for each in numbers]


def far_by_hand(kind, rule, firsts, n):
    """The number at a far place, with rests: x to the n less multiples of the rule's own polynomial."""
    size, prime = len(rule), kind.prime
    total = [1] + [0] * (size - 1)
    for figure in bin(n)[2:]:
        wide = [0] * (2 * size + 1)
        for one, other in itertools.product(range(size), repeat=2):
            wide[one + other + int(figure)] += total[one] * total[other]
        for place in range(2 * size, size - 1, -1):
            for back, factor in enumerate(rule, 1):
                wide[place - back] += wide[place] % prime * factor
        total = [each % prime for each in wide[:size]]
    return sum([one * other for one, other in zip(total, firsts)]) % prime


class Powers(unittest.TestCase):

    def test_written_out(self):
        A = [[1, 2], [3, 4]]
        self.assertEqual(power(SEVEN, A, 0), [[1, 0], [0, 1]])
        self.assertEqual(power(SEVEN, A, 1), [[1, 2], [3, 4]])
        self.assertEqual(power(SEVEN, A, 2), [[0, 3], [1, 1]])
        self.assertEqual(power(SEVEN, A, -1), [[5, 1], [5, 3]])
        self.assertEqual(power(SEVEN, A, -2), [[2, 1], [5, 0]])
        self.assertEqual(power(TWO, [[1, 1], [0, 1]], 10 ** 60 - 1), [[1, 1], [0, 1]])
        self.assertEqual(power(TWO, [[1, 1], [0, 1]], -10 ** 59), [[1, 0], [0, 1]])
        kind = Fractions()
        self.assertEqual(power(kind, [[(1, 2)]], 60), [[(1, 2 ** 60)]])
        self.assertEqual(power(kind, [[(-2, 3)]], -3), [[(-27, 8)]])
        self.assertEqual(power(kind, [[(1, 2), (1, 1)], [(0, 1), (1, 2)]], 3), [[(1, 8), (3, 4)], [(0, 1), (1, 8)]])
        self.assertEqual(power(kind, [[(1, 1), (1, 1)], [(1, 1), (0, 1)]], 60)[1][0], (1548008755920, 1))

    def test_nought(self):
        chance = source(271)
        for kind in kinds():
            for A in square_tables(chance, kind, (1, 2, 7), 60):
                self.assertEqual(power(kind, A, 0), unit_by_hand(kind, len(A)))

    def test_one_after_the_other(self):
        chance = source(272)
        for kind in kinds():
            for A in square_tables(chance, kind):
                product = unit_by_hand(kind, len(A))
                for n in range(1, 12):
                    product = times_table_by_hand(kind, product, A)
                    self.assertEqual(power(kind, A, n), product)

    def test_below_nought(self):
        chance = source(273)
        for kind in kinds():
            for size in (1, 2, 3, 7):
                A = full_table(chance, kind, size)
                for n in (1, 2, 3, 8, 13):
                    back = power(kind, A, -n)
                    self.assertEqual(times_table_by_hand(kind, back, power(kind, A, n)), unit_by_hand(kind, size))
                    self.assertEqual(times_table_by_hand(kind, power(kind, A, n), back), unit_by_hand(kind, size))
                one = power(kind, A, -1)
                two = times_table_by_hand(kind, one, one)
                self.assertEqual(power(kind, A, -3), times_table_by_hand(kind, two, one))

    def test_fractions_from_minus_sixty_to_sixty(self):
        chance, kind = source(274), Fractions()
        for size in (1, 2, 4):
            A = full_table(chance, kind, size)
            back = power(kind, A, -1)
            self.assertEqual(times_table_by_hand(kind, A, back), unit_by_hand(kind, size))
            onward, backward = unit_by_hand(kind, size), unit_by_hand(kind, size)
            for n in range(61):
                self.assertEqual(power(kind, A, n), onward)
                self.assertEqual(power(kind, A, -n), backward)
                onward = times_table_by_hand(kind, onward, A)
                backward = times_table_by_hand(kind, backward, back)

    def test_seven_rows_of_fractions(self):
        chance, kind = source(275), Fractions()
        A = [[(chance.randint(-9, 9), 1) for column in range(7)] for row in range(7)]
        A[0][0] = (1, 2)
        product = worths(kind, unit_by_hand(kind, 7))
        for n in range(60):
            product = times_by_hand(product, worths(kind, A))
        self.assertEqual(power(kind, A, 60), tolds(kind, product))

    def test_far_powers_of_rests(self):
        chance = source(276)
        for kind in rests():
            for size in (1, 2, 3, 7):
                A = full_table(chance, kind, size)
                for n in FAR:
                    self.assertEqual(power(kind, A, n), power_by_hand(kind, A, n))
                    back = power(kind, A, -n)
                    self.assertEqual(times_table_by_hand(kind, power(kind, A, n), back), unit_by_hand(kind, size))
                A = random_table(chance, kind, size, size)
                self.assertEqual(power(kind, A, FAR[0]), power_by_hand(kind, A, FAR[0]))

    def test_diagonal_and_rising_tables(self):
        chance = source(277)
        for kind in rests():
            for n in FAR:
                some = [random_number(chance, kind) for each in range(7)]
                A = [[some[row] if row == column else 0 for column in range(7)] for row in range(7)]
                expected = [[pow(some[row], n, kind.prime) if row == column else 0 for column in range(7)]
                            for row in range(7)]
                self.assertEqual(power(kind, A, n), expected)
                self.assertEqual(power(kind, [[1, 1], [0, 1]], n), [[1, n % kind.prime], [0, 1]])
                self.assertEqual(power(kind, [[1, 1], [0, 1]], -n), [[1, -n % kind.prime], [0, 1]])

    def test_all_small_tables(self):
        for prime, size in ((2, 1), (5, 1), (2, 2), (3, 2)):
            kind = Rests(prime)
            for A in all_tables(prime, size, size):
                for n in (2, 3, 4, 5, 6, 7, 30):
                    self.assertEqual(power(kind, A, n), power_by_hand(kind, A, n))

    def test_sixty_figures(self):
        chance, kind = source(278), Fractions()
        for size in (1, 2, 3):
            A = full_table(chance, kind, size, 60)
            self.assertEqual(power(kind, A, 2), times_table_by_hand(kind, A, A))
            back = power(kind, A, -2)
            self.assertEqual(times_table_by_hand(kind, back, times_table_by_hand(kind, A, A)), unit_by_hand(kind, size))
        A = random_table(chance, kind, 7, 7)
        self.assertEqual(power(kind, A, 1), A)
        self.assertEqual(power(kind, A, 2), times_table_by_hand(kind, A, A))
        self.assertEqual(power(kind, [[(10 ** 60 - 1, 1)]], -60), [[(1, (10 ** 60 - 1) ** 60)]])

    def test_no_inverse(self):
        chance = source(279)
        for kind in kinds():
            for A in square_tables(chance, kind):
                rank = len(reduced_by_hand(kind, A)[1])
                for n in (-1, -2, -60):
                    if rank < len(A):
                        self.assertEqual(refused(self, NoInverse, power, kind, A, n).rank, rank)
                    elif n == -1:
                        self.assertEqual(times_table_by_hand(kind, power(kind, A, n), A), unit_by_hand(kind, len(A)))
            # Its powers have another rank than the table itself.
            falling = [[kind.number(int(row == column + 1)) for column in range(7)] for row in range(7)]
            self.assertEqual(refused(self, NoInverse, power, kind, falling, -3).rank, 6)
            self.assertEqual(power(kind, falling, 7), noughts(kind, 7, 7))
        self.assertEqual(refused(self, NoInverse, power, SEVEN, [[1, 2], [2, 4]], 1 - 10 ** 60).rank, 1)
        self.assertEqual(refused(self, NoInverse, power, TWO, [[0]], -1).rank, 0)

    def test_not_square(self):
        for kind in kinds():
            for rows, columns in itertools.product(range(1, 8), repeat=2):
                if rows != columns:
                    for n in (0, 1, 2, -1, -2, 60):
                        refused(self, NoFit, power, kind, noughts(kind, rows, columns), n)


class RowsByARule(unittest.TestCase):

    def test_written_out(self):
        kind = Fractions()
        self.assertEqual([row_at(kind, [(1, 1), (1, 1)], [(0, 1), (1, 1)], n)[0] for n in range(9)],
                         [0, 1, 1, 2, 3, 5, 8, 13, 21])
        self.assertEqual(row_at(kind, [(1, 1), (1, 1)], [(0, 1), (1, 1)], 200),
                         (280571172992510140037611932413038677189525, 1))
        self.assertEqual(row_at(kind, [(1, 2)], [(3, 1)], 2), (3, 4))
        # The rule's first number goes with the number right ahead, not with the farthest.
        self.assertEqual([row_at(SEVEN, [2, 3], [1, 5], n) for n in range(5)], [1, 5, 6, 6, 2])
        self.assertEqual([row_at(SEVEN, [0, 0, 1], [4, 5, 6], n) for n in range(7)], [4, 5, 6, 4, 5, 6, 4])
        self.assertEqual([row_at(TWO, [1, 1], [0, 1], n) for n in range(6)], [0, 1, 1, 0, 1, 1])

    def test_one_by_one(self):
        chance = source(281)
        for kind in kinds():
            for size in range(1, 8):
                rule, firsts = random_row(chance, kind, size, 1), random_row(chance, kind, size, 1)
                if isinstance(kind, Fractions):
                    rule = [(each[0], 1) for each in rule]
                row = row_by_hand(kind, rule, firsts, 41)
                self.assertEqual([row_at(kind, rule, firsts, n) for n in range(41)], row)
                self.assertEqual([row_at(kind, rule, firsts, n) for n in range(size)], firsts)

    def test_fractions_to_two_hundred(self):
        chance, kind = source(282), Fractions()
        for size in (1, 2, 3, 7):
            rule = [(chance.randint(-3, 3), chance.choice((1, 2, 3))) for each in range(size)]
            rule = [kind.number(top, bottom) for top, bottom in rule]
            firsts = random_row(chance, kind, size, 2)
            row = row_by_hand(kind, rule, firsts, 201)
            for n in (0, 1, size - 1, size, size + 1, 50, 99, 127, 128, 199, 200):
                self.assertEqual(row_at(kind, rule, firsts, n), row[n])

    def test_far_places_of_rests(self):
        chance = source(283)
        for kind in rests():
            for size in (1, 2, 3, 7):
                rule, firsts = random_row(chance, kind, size), random_row(chance, kind, size)
                row = row_by_hand(kind, rule, firsts, 301)
                for n in (0, 5, 6, 7, 8, 299, 300):
                    if n < len(row):
                        self.assertEqual(row_at(kind, rule, firsts, n), row[n])
                        self.assertEqual(far_by_hand(kind, rule, firsts, n), row[n])
                for n in FAR:
                    self.assertEqual(row_at(kind, rule, firsts, n), far_by_hand(kind, rule, firsts, n))

    def test_one_number(self):
        chance = source(284)
        for kind in rests():
            for n in FAR + (0, 1, 2):
                factor, first = random_number(chance, kind), random_number(chance, kind)
                expected = first * pow(factor, n, kind.prime) % kind.prime
                self.assertEqual(row_at(kind, [factor], [first], n), expected)

    def test_noughts(self):
        for kind in kinds():
            for size in range(1, 8):
                none, ones = [kind.number(0)] * size, [kind.number(1)] * size
                for n in (0, size - 1, size, 200):
                    self.assertEqual(row_at(kind, ones, none, n), kind.number(0))
                    self.assertEqual(row_at(kind, none, ones, n), kind.number(int(n < size)))

    def test_sixty_figures(self):
        chance, kind = source(285), Fractions()
        for size in (1, 2, 7):
            rule, firsts = random_row(chance, kind, size), random_row(chance, kind, size)
            row = row_by_hand(kind, rule, firsts, 12)
            self.assertEqual([row_at(kind, rule, firsts, n) for n in range(12)], row)
        self.assertEqual(row_at(kind, [(10 ** 60 - 1, 1)], [(1, 10)], 60), ((10 ** 60 - 1) ** 60, 10))

    def test_another_count_of_first_ones(self):
        for kind in kinds():
            for count, other in itertools.product(range(1, 8), range(0, 9)):
                if count != other:
                    for n in (0, 1, 9):
                        rule, firsts = [kind.number(1)] * count, [kind.number(1)] * other
                        refused(self, NoFit, row_at, kind, rule, firsts, n)


class AskersOwn(unittest.TestCase):

    def test_answers_are_new_and_what_was_handed_in_is_as_it_was(self):
        chance = source(2)
        for kind in kinds():
            for A in (full_table(chance, kind, 3), unit_by_hand(kind, 3), unit_by_hand(kind, 1)):
                for n in (0, 1, 2, 5, -1, -2):
                    check_own(self, power, [kind, A, n])
            for A in (noughts(kind, 2, 2), low_table(chance, kind, 3, 3, 1)):
                for n in (0, 1, 2):
                    check_own(self, power, [kind, A, n])
            rule, firsts = random_row(chance, kind, 3), random_row(chance, kind, 3)
            for n in (0, 1, 2, 3, 8):
                before = copy.deepcopy((rule, firsts))
                row_at(kind, rule, firsts, n)
                self.assertEqual((rule, firsts), before)

    def test_a_refusal_changes_nothing(self):
        A, rule, firsts = [[1, 2], [2, 4]], [1, 2], [3]
        before = copy.deepcopy((A, rule, firsts))
        refused(self, NoInverse, power, SEVEN, A, -1)
        refused(self, NoFit, power, SEVEN, A[:1], 1)
        refused(self, NoFit, row_at, SEVEN, rule, firsts, 1)
        self.assertEqual((A, rule, firsts), before)


if __name__ == "__main__":
    unittest.main()
