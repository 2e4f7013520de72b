"""The kinds of numbers: fractions, and rests by a prime."""

from turnframe.errors import NoKind, NoNumber
from turnframe.wholes import divisor, is_prime, is_whole, shares


class Kind:

    def over(self, one, other):
        return self.times(one, self.back(other))

    def sum_of_products(self, some, others):
        total = self.number(0)
        for one, other in zip(some, others):
            total = self.plus(total, self.times(one, other))
        return total

    def common_bottom(self, some):
        # A whole number that takes the bottoms from all of some; only fractions have any.
        return 1

    def common_top(self, some):
        # The greatest whole number that divides the tops of all of some; only those of fractions are asked.
        return 1


class Fractions(Kind):

    def number(self, top, bottom=1):
        if bottom == 0:
            raise NoNumber("a fraction has no bottom of 0")
        common = divisor(top, bottom)
        if bottom < 0:
            common = -common
        return (top // common, bottom // common)

    def plus(self, one, other):
        # What the bottoms have in common is taken out ahead of the sum: the numbers stay
        # small, and only a divisor of that common part can be left in the sum's top.
        common = divisor(one[1], other[1])
        ahead = one[1] // common
        top = one[0] * (other[1] // common) + other[0] * ahead
        left = divisor(top, common)
        return (top // left, ahead * (other[1] // left))

    def minus(self, one, other):
        return self.plus(one, (-other[0], other[1]))

    def times(self, one, other):
        # Each top can only have something in common with the other one's bottom, so
        # that is taken out ahead of the product, where the numbers are still small.
        falling = divisor(one[0], other[1])
        rising = divisor(other[0], one[1])
        top = (one[0] // falling) * (other[0] // rising)
        return (top, (one[1] // rising) * (other[1] // falling))

    def back(self, one):
        if one[0] == 0:
            raise NoNumber("nought has no back")
        if one[0] < 0:
            return (-one[1], -one[0])
        return (one[1], one[0])

    def sum_of_products(self, some, others):
        # Whole numbers are summed over one bottom, so that the sum is brought to its one form but once.
        ahead = self.common_bottom(some)
        behind = self.common_bottom(others)
        total = 0
        for one, other in zip(some, others):
            total += one[0] * (ahead // one[1]) * other[0] * (behind // other[1])
        return self.number(total, ahead * behind)

    def common_bottom(self, some):
        bottom = 1
        for one in some:
            if bottom % one[1] != 0:
                bottom = bottom // divisor(bottom, one[1]) * one[1]
        return bottom

    def common_top(self, some):
        top = 0
        for one in some:
            top = divisor(top, one[0])
        return top

    def is_nought(self, one):
        return one[0] == 0

    def is_number(self, thing):
        if not isinstance(thing, tuple) or len(thing) != 2:
            return False
        if not is_whole(thing[0]) or not is_whole(thing[1]):
            return False
        return thing[1] >= 1 and divisor(thing[0], thing[1]) == 1


class Rests(Kind):

    def __init__(self, prime):
        if not is_whole(prime) or not is_prime(prime):
            raise NoKind("rests are by a prime below 1000000 alone")
        self.prime = prime

    def number(self, top, bottom=1):
        if bottom % self.prime == 0:
            raise NoNumber("a bottom that the prime divides has no back")
        return top * shares(bottom, self.prime)[1] % self.prime

    def plus(self, one, other):
        return (one + other) % self.prime

    def minus(self, one, other):
        return (one - other) % self.prime

    def times(self, one, other):
        return one * other % self.prime

    def back(self, one):
        return self.number(1, one)

    def sum_of_products(self, some, others):
        return sum([one * other for one, other in zip(some, others)]) % self.prime

    def is_nought(self, one):
        return one == 0

    def is_number(self, thing):
        return is_whole(thing) and 0 <= thing < self.prime
