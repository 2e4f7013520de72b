"""The roots of polynomials, and how often each one is a root."""

from turnframe.kinds import Fractions, Rests
from turnframe.polys import common_part, divided, trimmed, value_at
from turnframe.tables import plain_row
from turnframe.wholes import is_prime, shares


def slopes(kind, f):
    """The derivative: what it has in common with f is what f has more than once."""
    return trimmed(kind, [kind.times(kind.number(place), f[place]) for place in range(1, len(f))])


def is_simple(kind, f):
    return len(common_part(kind, f, slopes(kind, f))) == 1


def tried_roots(kind, f):
    return [number for number in range(kind.prime) if kind.is_nought(value_at(kind, f, number))]


def plain_tops(kind, f):
    """The tops of the multiple of f without bottoms and without a common divisor."""
    return [each[0] for each in plain_row(kind, f)]


def rests_of(kind, numbers):
    return [kind.number(each) for each in numbers]


def fits(number, numbers):
    if not is_prime(number) or numbers[-1] % number == 0:
        return False
    kind = Rests(number)
    return is_simple(kind, rests_of(kind, numbers))


def fitting_prime(numbers):
    """The least prime by which the polynomial keeps its degree and has no root twice."""
    number = 2
    while not fits(number, numbers):
        number += 1
    return number


def rest_at(numbers, number, bound):
    total = 0
    for each in reversed(numbers):
        total = (total * number + each) % bound
    return total


def lifted(numbers, start, prime, least_bound):
    """From a root by the prime the one root by a power of the prime, greater than the bound, that it is the rest of.

    Newton's way: each turn doubles the power's exponent.
    """
    steep = [place * numbers[place] for place in range(1, len(numbers))]
    bound = prime
    root = start
    while bound <= least_bound:
        bound *= bound
        back = shares(rest_at(steep, root, bound), bound)[1]
        root = (root - rest_at(numbers, root, bound) * back) % bound
    return (root, bound)


def only_candidate(kind, numbers, start, prime):
    """The one fraction that can be a root of the polynomial and leave this rest by the prime.

    A root times the last number is whole, and at most twice as great as the greatest number of all (Cauchy's bound);
    so its rest by something more than four times as great tells it.
    """
    greatest = max([abs(each) for each in numbers])
    found = lifted(numbers, start, prime, 4 * greatest)
    top = numbers[-1] * found[0] % found[1]
    if 2 * top > found[1]:
        top -= found[1]
    return kind.number(top, numbers[-1])


def fraction_roots(kind, f):
    numbers = plain_tops(kind, divided(kind, f, common_part(kind, f, slopes(kind, f)))[0])
    prime = fitting_prime(numbers)
    under = Rests(prime)
    starts = tried_roots(under, rests_of(under, numbers))
    candidates = [only_candidate(kind, numbers, start, prime) for start in starts]
    found = [each for each in candidates if kind.is_nought(value_at(kind, f, each))]
    bottom = kind.common_bottom(found)
    return sorted(found, key=lambda root: root[0] * (bottom // root[1]))


def taken_out(kind, f, root):
    """How often f can be divided by x less the root, and what is left of it then."""
    factor = [kind.minus(kind.number(0), root), kind.number(1)]
    times = 0
    found = divided(kind, f, factor)
    while len(found[1]) == 0:
        f = found[0]
        times += 1
        found = divided(kind, f, factor)
    return (times, f)


def roots_and_left(kind, f):
    """The roots, each with how often it is one, and what is left of f without them."""
    some = fraction_roots(kind, f) if isinstance(kind, Fractions) else tried_roots(kind, f)
    answer = []
    for root in some:
        found = taken_out(kind, f, root)
        answer.append((root, found[0]))
        f = found[1]
    return (answer, f)


def roots(kind, f):
    return roots_and_left(kind, f)[0]
