"""Powers of square tables, and rows of numbers told by a rule."""

from turnframe.errors import NoFit
from turnframe.solving import inverse
from turnframe.tables import evenly_freed, need_square, scaled, times_table, unit, unit_row


def power_parts(kind, A, n):
    """The power by n, from 0 on, as a table without bottoms and the one bottom that all its numbers have."""
    part = evenly_freed(kind, A)
    total = unit(kind, len(A))
    bottom = 1
    # Twofold at each of n's binary figures, from the highest on, so that great numbers n take but few products.
    for place in range(n.bit_length() - 1, -1, -1):
        total = times_table(kind, total, total)
        bottom *= bottom
        if (n >> place) % 2 == 1:
            total = times_table(kind, total, part[0])
            bottom *= part[1]
    return (total, bottom)


def power(kind, A, n):
    need_square(A)
    if n < 0:
        return power(kind, inverse(kind, A), -n)
    found = power_parts(kind, A, n)
    return scaled(kind, kind.number(1, found[1]), found[0])


def moving_table(kind, rule):
    """The table that leads from as many numbers of a row as the rule has to those one place farther."""
    size = len(rule)
    return [unit_row(kind, size, place) for place in range(1, size)] + [list(reversed(rule))]


def row_at(kind, rule, firsts, n):
    if len(firsts) != len(rule):
        raise NoFit("a row has as many first numbers as its rule has numbers")
    found = power_parts(kind, moving_table(kind, rule), n)
    total = kind.sum_of_products(found[0][0], firsts)
    return kind.times(total, kind.number(1, found[1]))
