"""Whole numbers: what they share, and which of them are prime."""

PRIME_BOUND = 1000000


def is_whole(thing):
    # Python counts True and False among its ints; here they are no numbers.
    return isinstance(thing, int) and not isinstance(thing, bool)


def divisor(one, other):
    while other != 0:
        rest = one % other
        one = other
        other = rest
    return abs(one)


def shares(one, other):
    # Each of the two is (d, u, v) with d = u one + v other, so the last one with a d above 0 is an answer.
    upper = (one, 1, 0)
    lower = (other, 0, 1)
    while lower[0] != 0:
        following = less_times(upper, upper[0] // lower[0], lower)
        upper = lower
        lower = following
    if upper[0] < 0:
        return less_times((0, 0, 0), 1, upper)
    return upper


def less_times(some, factor, others):
    return (some[0] - factor * others[0], some[1] - factor * others[1], some[2] - factor * others[2])


def is_prime(number):
    # From the bound on nothing is promised; False is told at once, where a trial could run without end.
    if number < 2 or number >= PRIME_BOUND:
        return False
    if number % 2 == 0:
        return number == 2
    trial = 3
    while trial * trial <= number:
        if number % trial == 0:
            return False
        trial += 2
    return True


def sign_of(count):
    return 1 if count % 2 == 0 else -1
