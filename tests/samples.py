"""What the tests share: kinds, numbers, and the checks that go with every answer."""

import random
from fractions import Fraction

from turnframe import errors
from turnframe.kinds import Fractions, Rests

PRIMES = (2, 3, 5, 7, 101, 997, 65537, 999979, 999983)
SIXTY = 10 ** 60 - 1
# Whole numbers with edges among them; each has at most sixty figures.
WHOLES = (0, 1, -1, 2, -2, 3, 4, -6, 7, 12, -35, 97, 1000003, -999983, 10 ** 30, 10 ** 59 + 7, SIXTY, -SIXTY)

REFUSALS = (
    errors.NoKind, errors.NoNumber, errors.NoFit, errors.NoTurn,
    errors.NoInverse, errors.NoText, errors.NoName, errors.NoRow,
)

# Nothing here is a whole number, a number of a kind, or a table.
ODDITIES = (
    None, True, False, "", "1", "7", "1/2", 0.0, 1.0, 7.0, 1.5, float("nan"), float("inf"), 2j, b"7", bytearray(b"7"),
    [], {}, (), set(), frozenset((7,)), [7], (7,), {7: 7}, {0: 1, 1: 1}, "ab", [1, 2], range(7), Fraction(7), object(),
    int, len, Rests, Fractions(), Rests(7), (1, 2, 3), (None, 1), (1, None), (1.0, 1), ("1", "2"), ((1, 2), (1, 2)),
)


def kinds():
    return [Fractions()] + [Rests(prime) for prime in PRIMES]


def source(seed):
    return random.Random(seed)


def random_whole(chance, figures):
    bound = 10 ** chance.randint(1, figures)
    return chance.randint(1 - bound, bound - 1)


def random_number(chance, kind, figures=60):
    if isinstance(kind, Rests):
        return chance.choice((0, 1, kind.prime - 1, chance.randrange(kind.prime)))
    bottom = 0
    while bottom == 0:
        bottom = random_whole(chance, figures)
    whole = Fraction(random_whole(chance, figures), bottom)
    return (whole.numerator, whole.denominator)


def random_table(chance, kind, rows, columns, figures=60):
    return [random_row(chance, kind, columns, figures) for row in range(rows)]


def random_row(chance, kind, count, figures=60):
    return [random_number(chance, kind, figures) for place in range(count)]


def worth(kind, number):
    """The number for Python's own reckoning: a Fraction, or an int that stands for all with the same rest."""
    return number if isinstance(kind, Rests) else Fraction(number[0], number[1])


def told(kind, worth_of_it):
    """The number of the kind that Python's own reckoning comes to."""
    if isinstance(kind, Rests):
        return worth_of_it % kind.prime
    return (worth_of_it.numerator, worth_of_it.denominator)


def refused(case, refusal, call, *arguments):
    """The call is refused with this class, and with no other one of the eight."""
    with case.assertRaises(errors.FrameError) as caught:
        call(*arguments)
    found = [each for each in REFUSALS if isinstance(caught.exception, each)]
    case.assertEqual(found, [refusal], arguments)
    case.assertIsInstance(caught.exception, ValueError)
    return caught.exception
