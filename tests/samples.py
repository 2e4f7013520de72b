"""What the tests share: kinds, numbers, and the checks that go with every answer."""

import copy
import itertools
import random
from fractions import Fraction

from turnframe import errors
from turnframe.kinds import Fractions, Rests
from turnframe.tables import is_table

PRIMES = (2, 3, 5, 7, 101, 997, 65537, 999979, 999983)
SIXTY = 10 ** 60 - 1
# Whole numbers with edges among them; each has at most sixty figures.
WHOLES = (0, 1, -1, 2, -2, 3, 4, -6, 7, 12, -35, 97, 1000003, -999983, 10 ** 30, 10 ** 59 + 7, SIXTY, -SIXTY)

REFUSALS = (
    errors.NoKind, errors.NoNumber, errors.NoFit, errors.NoTurn,
    errors.NoInverse, errors.NoText, errors.NoName, errors.NoRow,
)

# Nothing here is a whole number, a number of a kind, or a table.
ODDITIES = (
    None, True, False, "", "1", "7", "1/2", 0.0, 1.0, 7.0, 1.5, float("nan"), float("inf"), 2j, b"7", bytearray(b"7"),
    [], {}, (), set(), frozenset((7,)), [7], (7,), {7: 7}, {0: 1, 1: 1}, "ab", [1, 2], range(7), Fraction(7), object(),
    int, len, Rests, Fractions(), Rests(7), (1, 2, 3), (None, 1), (1, None), (1.0, 1), ("1", "2"), ((1, 2), (1, 2)),
)


def kinds():
    return [Fractions()] + [Rests(prime) for prime in PRIMES]


def few_kinds():
    """For tests that take long: the kinds at the edges."""
    return [Fractions(), Rests(2), Rests(3), Rests(999983)]


def near_kinds():
    """The kinds whose roots are told: fractions, and rests by primes below 1000."""
    return [kind for kind in kinds() if not isinstance(kind, Rests) or kind.prime < 1000]


def few_near_kinds():
    return [Fractions(), Rests(2), Rests(5), Rests(997)]


class FractionsUndivided(Fractions):
    """Fractions that are not to be divided."""

    def back(self, one):
        raise AssertionError("divided")

    def over(self, one, other):
        raise AssertionError("divided")


class RestsUndivided(Rests):

    def back(self, one):
        raise AssertionError("divided")

    def over(self, one, other):
        raise AssertionError("divided")


def undivided_kinds():
    return [FractionsUndivided(), RestsUndivided(2), RestsUndivided(7)]


def source(seed):
    return random.Random(seed)


def random_whole(chance, figures):
    bound = 10 ** chance.randint(1, figures)
    return chance.randint(1 - bound, bound - 1)


def random_number(chance, kind, figures=60):
    if isinstance(kind, Rests):
        return chance.choice((0, 1, kind.prime - 1, chance.randrange(kind.prime)))
    bottom = 0
    while bottom == 0:
        bottom = random_whole(chance, figures)
    whole = Fraction(random_whole(chance, figures), bottom)
    return (whole.numerator, whole.denominator)


def random_table(chance, kind, rows, columns, figures=60):
    return [random_row(chance, kind, columns, figures) for row in range(rows)]


def random_row(chance, kind, count, figures=60):
    return [random_number(chance, kind, figures) for place in range(count)]


def worth(kind, number):
    """The number for Python's own reckoning: a Fraction, or an int that stands for all with the same rest."""
    return number if isinstance(kind, Rests) else Fraction(number[0], number[1])


def told(kind, worth_of_it):
    """The number of the kind that Python's own reckoning comes to."""
    if isinstance(kind, Rests):
        return worth_of_it % kind.prime
    return (worth_of_it.numerator, worth_of_it.denominator)


def worths(kind, table):
    return [[worth(kind, each) for each in row] for row in table]


def tolds(kind, table):
    return [[told(kind, each) for each in row] for row in table]


def low_table(chance, kind, rows, columns, most, figures=1):
    """A table whose rank is at most so great: a product of two narrower ones."""
    left = worths(kind, random_table(chance, kind, rows, most, figures))
    right = worths(kind, random_table(chance, kind, most, columns, figures))
    return tolds(kind, [[sum([row[k] * right[k][j] for k in range(most)]) for j in range(columns)] for row in left])


def noughts(kind, rows, columns):
    return [[kind.number(0)] * columns for row in range(rows)]


def some_tables(chance, kind, figures=1):
    """Tables of many sizes and ranks, of one row and of one column among them."""
    for rows, columns in itertools.product((1, 2, 3, 5, 7), repeat=2):
        yield random_table(chance, kind, rows, columns, figures)
        yield noughts(kind, rows, columns)
        for most in range(1, min(rows, columns)):
            yield low_table(chance, kind, rows, columns, most, figures)


def square_tables(chance, kind, sizes=(1, 2, 3, 4, 7), figures=1):
    for size in sizes:
        yield random_table(chance, kind, size, size, figures)
        yield noughts(kind, size, size)
        for most in range(1, size):
            yield low_table(chance, kind, size, size, most, figures)


def all_tables(prime, rows, columns):
    for numbers in itertools.product(range(prime), repeat=rows * columns):
        yield [list(numbers[row * columns:(row + 1) * columns]) for row in range(rows)]


def over_worth(kind, one, other):
    return one * pow(other, -1, kind.prime) % kind.prime if isinstance(kind, Rests) else one / other


def reduced_by_hand(kind, table):
    """The reduced table and its leads' columns, by Python's own reckoning and column by column."""
    rows, leads = worths(kind, table), []
    for column in range(len(table[0])):
        filled = [i for i in range(len(leads), len(rows)) if told(kind, rows[i][column]) != kind.number(0)]
        if filled:
            row = rows.pop(filled[0])
            row = [over_worth(kind, each, row[column]) for each in row]
            rows = [[each - other[column] * first for each, first in zip(other, row)] for other in rows]
            rows.insert(len(leads), row)
            leads.append(column)
    return tolds(kind, rows), leads


def sign_by_hand(order):
    pairs = [pair for pair in itertools.combinations(order, 2) if pair[0] > pair[1]]
    return -1 if len(pairs) % 2 else 1


def determinant_by_hand(kind, table):
    """The sum over all orders of the columns."""
    rows, total = worths(kind, table), worth(kind, kind.number(0))
    for order in itertools.permutations(range(len(rows))):
        product = sign_by_hand(order)
        for row, column in zip(rows, order):
            product *= row[column]
        total += product
    return told(kind, total)


def product_by_hand(kind, some, others):
    return told(kind, sum([worth(kind, one) * worth(kind, other) for one, other in zip(some, others)]))


def random_poly(chance, kind, count, figures=1):
    """A polynomial of so many numbers; [] where they are none."""
    last = kind.number(0)
    while kind.is_nought(last):
        last = random_number(chance, kind, figures)
    return random_row(chance, kind, count - 1, figures) + [last] if count > 0 else []


def monic_poly(chance, kind, degree, figures=1):
    return random_row(chance, kind, degree, figures) + [kind.number(1)]


def told_poly(kind, numbers):
    """The polynomial that a list of Python's own numbers comes to."""
    answer = [told(kind, each) for each in numbers]
    while answer and answer[-1] == kind.number(0):
        answer.pop()
    return answer


def sum_poly_by_hand(kind, some, others, sign=1):
    numbers = [worth(kind, kind.number(0))] * max(len(some), len(others))
    for place, each in enumerate(some):
        numbers[place] += worth(kind, each)
    for place, each in enumerate(others):
        numbers[place] += sign * worth(kind, each)
    return told_poly(kind, numbers)


def product_poly_by_hand(kind, some, others):
    numbers = [worth(kind, kind.number(0))] * (len(some) + len(others))
    for place, one in enumerate(some):
        for further, other in enumerate(others):
            numbers[place + further] += worth(kind, one) * worth(kind, other)
    return told_poly(kind, numbers)


def poly_with_roots(kind, some, factor=None):
    """The product of x less each root, so many times, with another factor if there is one."""
    f = [kind.number(1)] if factor is None else factor
    for root, times in some:
        for turn in range(times):
            f = product_poly_by_hand(kind, f, [kind.minus(kind.number(0), root), kind.number(1)])
    return f


def all_polys(prime, degree):
    """All monic polynomials of a degree over the rests by a prime."""
    return [list(numbers) + [1] for numbers in itertools.product(range(prime), repeat=degree)]


def determinant_of_polys(kind, table):
    """The sum over all orders of the columns, of a table of polynomials; kind is that of their numbers."""
    total = []
    for order in itertools.permutations(range(len(table))):
        product = [kind.number(sign_by_hand(order))]
        for row, column in zip(table, order):
            product = product_poly_by_hand(kind, product, row[column])
        total = sum_poly_by_hand(kind, total, product)
    return total


def times_by_hand(left, right):
    columns = list(zip(*right))
    return [[sum([one * other for one, other in zip(row, column)]) for column in columns] for row in left]


def table_at_by_hand(kind, f, table):
    """The sum of the numbers of f times the powers of the table, the powers one by one."""
    size, rows = len(table), worths(kind, table)
    power = [[1 if row == column else 0 for column in range(size)] for row in range(size)]
    total = worths(kind, noughts(kind, size, size))
    for each in f:
        total = [[one + worth(kind, each) * other for one, other in zip(*pair)] for pair in zip(total, power)]
        power = times_by_hand(power, rows)
    return tolds(kind, total)


def random_poly_table(chance, kind, rows, columns, most, figures=1):
    """A table of polynomials of at most so many numbers, [] among them."""
    return [[random_poly(chance, kind, chance.randint(0, most), figures) for place in range(columns)]
            for row in range(rows)]


def blocks_by_hand(kind, tables):
    """The tables one after the other down where row and column are the same."""
    size = sum([len(each) for each in tables])
    answer, start = noughts(kind, size, size), 0
    for each in tables:
        for place, row in enumerate(each):
            answer[start + place][start:start + len(row)] = row
        start += len(each)
    return answer


def x_less(kind, table):
    """The table of polynomials of x less a table."""
    rows = [[sum_poly_by_hand(kind, [], [each], -1) for each in row] for row in table]
    for place, row in enumerate(rows):
        row[place] = sum_poly_by_hand(kind, row[place], [kind.number(0), kind.number(1)])
    return rows


def companion_by_hand(kind, f):
    degree = len(f) - 1
    table = noughts(kind, degree, degree)
    for place in range(1, degree):
        table[place][place - 1] = kind.number(1)
    for place in range(degree):
        table[place][degree - 1] = kind.minus(kind.number(0), f[place])
    return table


def like(chance, kind, table):
    """A table like it: each turn of its rows is undone in its columns."""
    rows = worths(kind, table)
    for turn in range(3 * len(rows) if len(rows) > 1 else 0):
        i, j = chance.sample(range(len(rows)), 2)
        factor = chance.choice((-2, -1, 1, 2, 3))
        rows[i] = [one + factor * other for one, other in zip(rows[i], rows[j])]
        for row in rows:
            row[j] -= factor * row[i]
    order = chance.sample(range(len(rows)), len(rows))
    return tolds(kind, [[rows[place][column] for column in order] for place in order])


def falling_sizes(size, most=7):
    """All lists of whole numbers from 1 to most that come to the size, none greater than the one ahead of it."""
    if size == 0:
        return [[]]
    return [[first] + rest for first in range(min(size, most), 0, -1) for rest in falling_sizes(size - first, first)]


def random_chain(chance, kind, degrees, figures=1):
    """A chain of monic polynomials of these falling degrees: each is divided by the next one."""
    chain, last = [], [kind.number(1)]
    for degree in reversed(degrees):
        last = product_poly_by_hand(kind, last, monic_poly(chance, kind, degree - len(last) + 1, figures))
        chain.insert(0, last)
    return chain


def blocks_of_chain(kind, chain):
    return blocks_by_hand(kind, [companion_by_hand(kind, f) for f in chain])


def times_table_by_hand(kind, left, right):
    return tolds(kind, times_by_hand(worths(kind, left), worths(kind, right)))


def unit_by_hand(kind, size):
    return [[kind.number(int(row == column)) for column in range(size)] for row in range(size)]


def check_turns(case, kind, A, T, S, B):
    """A T = T B, and S T is the unit."""
    for each in (T, S):
        case.assertIs(is_table(kind, each), True)
        case.assertEqual((len(each), len(each[0])), (len(A), len(A)))
    case.assertEqual(times_table_by_hand(kind, S, T), unit_by_hand(kind, len(A)))
    case.assertEqual(times_table_by_hand(kind, A, T), times_table_by_hand(kind, T, B))


def families(prime, size):
    """All tables over the rests by a prime, each with the least one that is like it, found by trying all turns."""
    tables = list(all_tables(prime, size, size))
    kind, found = Rests(prime), {}
    one = unit_by_hand(kind, size)
    pairs = [(T, S) for T in tables for S in tables if times_table_by_hand(kind, S, T) == one]
    for A in tables:
        if str(A) not in found:
            for T, S in pairs:
                found[str(times_table_by_hand(kind, S, times_table_by_hand(kind, A, T)))] = A
    return [(A, found[str(A)]) for A in tables]


def lists_in(thing):
    """All lists within a list or tuple, itself too."""
    within = [each for part in thing for each in lists_in(part)] if isinstance(thing, (list, tuple)) else []
    return ([thing] if isinstance(thing, list) else []) + within


def check_own(case, call, arguments):
    """What was handed in stays as it was, and each list told is new, stands once, and is the asker's own."""
    handed = [each for each in arguments if isinstance(each, list)]
    before = copy.deepcopy(handed)
    answer = call(*arguments)
    case.assertEqual(handed, before, call)
    given = lists_in(answer)
    case.assertEqual(len({id(each) for each in given}), len(given), call)
    old = {id(each) for each in lists_in(handed)}
    case.assertFalse([each for each in given if id(each) in old], call)
    kept = copy.deepcopy(answer)
    again = call(*arguments)
    case.assertEqual(again, kept, call)
    for each in given:
        each.clear()
    case.assertEqual(handed, before, call)
    case.assertEqual(again, kept, call)
    case.assertEqual(call(*arguments), kept, call)


def refused(case, refusal, call, *arguments):
    """The call is refused with this class, and with no other one of the eight."""
    with case.assertRaises(errors.FrameError) as caught:
        call(*arguments)
    found = [each for each in REFUSALS if isinstance(caught.exception, each)]
    case.assertEqual(found, [refusal], arguments)
    case.assertIsInstance(caught.exception, ValueError)
    return caught.exception
