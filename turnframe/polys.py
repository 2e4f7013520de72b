"""Polynomials: as numbers of a kind, divided, with their common part, and their values."""

from turnframe.errors import NoNumber
from turnframe.kinds import Kind
from turnframe.tables import evenly_freed, need_square, plus_table, scaled, times_table, unit


def trimmed(kind, numbers):
    count = len(numbers)
    while count > 0 and kind.is_nought(numbers[count - 1]):
        count -= 1
    return numbers[:count]


def product_number(kind, some, others, place):
    """The number at a place of the product of two polynomials, told by their lists."""
    start = max(0, place - len(others) + 1)
    bound = min(place + 1, len(some))
    return kind.sum_of_products(some[start:bound], [others[place - each] for each in range(start, bound)])


class Polys(Kind):

    def __init__(self, under):
        self.under = under

    def number(self, top, bottom=1):
        return trimmed(self.under, [self.under.number(top, bottom)])

    def plus(self, one, other):
        both = [self.under.plus(left, right) for left, right in zip(one, other)]
        return trimmed(self.under, both + one[len(both):] + other[len(both):])

    def minus(self, one, other):
        return self.plus(one, [self.under.minus(self.under.number(0), each) for each in other])

    def times(self, one, other):
        count = len(one) + len(other) - 1
        return trimmed(self.under, [product_number(self.under, one, other, place) for place in range(count)])

    def back(self, one):
        if len(one) != 1:
            raise NoNumber("only a polynomial of one number has a back")
        return [self.under.back(one[0])]

    def is_nought(self, one):
        return len(one) == 0

    def is_number(self, thing):
        if not isinstance(thing, list) or not all([self.under.is_number(each) for each in thing]):
            return False
        return len(thing) == 0 or not self.under.is_nought(thing[-1])

    def common_bottom(self, some):
        numbers = []
        for one in some:
            numbers.extend(one)
        return self.under.common_bottom(numbers)


def divided(kind, f, g):
    if len(g) == 0:
        raise NoNumber("no polynomial is divided by nought")
    degree = len(g) - 1
    back = kind.back(g[-1])
    rest = list(f)
    quotient = []
    for place in range(len(f) - len(g), -1, -1):
        factor = kind.times(rest[place + degree], back)
        for above in range(degree):
            rest[place + above] = kind.minus(rest[place + above], kind.times(factor, g[above]))
        quotient.append(factor)
    return (list(reversed(quotient)), trimmed(kind, rest[:degree]))


def raised(kind, number, count):
    product = kind.number(1)
    for turn in range(count):
        product = kind.times(product, number)
    return product


def following_row(kind, upper, lower, last, height):
    """What is left of a multiple of the upper row's first polynomial behind its division by the lower row's first one.

    The rows' other polynomials go along: what holds between them in both rows holds in the new one.
    """
    polys = Polys(kind)
    gap = len(upper[0]) - len(lower[0])
    factor = [raised(kind, lower[0][-1], gap + 1)]
    quotient = divided(kind, polys.times(factor, upper[0]), lower[0])[0]
    shrink = [kind.back(kind.times(last, raised(kind, height, gap)))]
    answer = []
    for one, other in zip(upper, lower):
        answer.append(polys.times(shrink, polys.minus(polys.times(factor, one), polys.times(quotient, other))))
    return answer


def common_row(kind, upper, lower):
    """The row whose first polynomial is the common part, monic, of the two first ones.

    Euclid's way, with the multiples and the divisors of subresultants (Collins and Brown): where the rows begin
    without bottoms, no number gets one until the end, and none gets greater than it must.
    """
    if len(upper[0]) < len(lower[0]):
        return common_row(kind, lower, upper)
    last = kind.number(1)
    height = kind.number(1)
    while len(lower[0]) > 0:
        gap = len(upper[0]) - len(lower[0])
        following = following_row(kind, upper, lower, last, height)
        upper = lower
        lower = following
        last = upper[0][-1]
        if gap > 0:
            height = kind.over(raised(kind, last, gap), raised(kind, height, gap - 1))
    if len(upper[0]) == 0:
        return upper
    back = [kind.back(upper[0][-1])]
    return [Polys(kind).times(back, one) for one in upper]


def bottom_factor(kind, f):
    return [kind.number(kind.common_bottom(f))]


def common(kind, f, g):
    polys = Polys(kind)
    ahead = bottom_factor(kind, f)
    behind = bottom_factor(kind, g)
    row = common_row(kind, [polys.times(ahead, f), ahead, []], [polys.times(behind, g), [], behind])
    return (row[0], row[1], row[2])


def common_part(kind, f, g):
    polys = Polys(kind)
    upper = [polys.times(bottom_factor(kind, f), f)]
    lower = [polys.times(bottom_factor(kind, g), g)]
    return common_row(kind, upper, lower)[0]


def value_at(kind, f, number):
    total = kind.number(0)
    for each in reversed(f):
        total = kind.plus(kind.times(total, number), each)
    return total


def table_at(kind, f, table):
    need_square(table)
    # With the table without its bottom, the numbers of f are taken times as many bottoms as their powers fall short.
    part = evenly_freed(kind, table)
    one = unit(kind, len(table))
    total = scaled(kind, kind.number(0), one)
    bottom = 1
    short = kind.common_bottom(f)
    for each in reversed(f):
        number = kind.times(each, kind.number(short))
        total = plus_table(kind, times_table(kind, total, part[0]), scaled(kind, number, one))
        bottom = short
        short *= part[1]
    return scaled(kind, kind.number(1, bottom), total)
