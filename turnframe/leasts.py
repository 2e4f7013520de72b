"""Least polynomials of columns and of square tables, and the great polynomial of a table."""

from turnframe.bare import falling_numbers
from turnframe.errors import NoFit
from turnframe.polys import Polys, common_part, divided, trimmed
from turnframe.tables import evenly_freed, image, need_square, plus_row, scaled_row, turned, unit_row


def need_column(A, column):
    if len(column) != len(A):
        raise NoFit("a column with as many numbers as the table has rows is needed")


def great(kind, A):
    need_square(A)
    part = evenly_freed(kind, A)
    numbers = []
    bottom = 1
    for each in falling_numbers(kind, part[0]):
        numbers.append(kind.times(each, kind.number(1, bottom)))
        bottom *= part[1]
    return list(reversed(numbers))


def climbed(kind, f, A, column):
    """The images of a column under the values at A of f's highest number alone, of its two highest ones, and so on.

    The last one is the image under f's value. Of all but the last, for a great polynomial f, the sums and multiples
    are those of the column, its image, the image of that, and so on; but the numbers here are smaller.
    """
    current = [kind.number(0) for each in column]
    columns = []
    for number in reversed(f):
        current = plus_row(kind, image(kind, A, current), scaled_row(kind, number, column))
        columns.append(current)
    return columns


def tops_over(kind, f, A, column):
    """For each row, f times what the inverse of x less A makes of a column that f's value at A brings to noughts.

    These are polynomials: the rows of the climbed columns tell them, the highest power first.
    """
    rows = turned(climbed(kind, f, A, column)[:-1])
    return [trimmed(kind, list(reversed(numbers))) for numbers in rows]


def least_within(kind, A, whole, column):
    """The least polynomial of a column, whole being the great polynomial of A.

    What whole has in common with all the tops over it is what the column does not need.
    """
    shared = whole
    for top in tops_over(kind, whole, A, column):
        if len(shared) > 1:
            shared = common_part(kind, shared, top)
    return divided(kind, whole, shared)[0]


def least_of(kind, A, column):
    need_square(A)
    need_column(A, column)
    return least_within(kind, A, great(kind, A), column)


def part_without(kind, f, g):
    """What is left of f when all that it shares with g, however often, is taken from it."""
    shared = common_part(kind, f, g)
    while len(shared) > 1:
        f = divided(kind, f, shared)[0]
        shared = common_part(kind, f, g)
    return f


def image_at(kind, f, A, column):
    return climbed(kind, f, A, column)[-1]


def joined(kind, A, one, other):
    """Of two tuples of a least polynomial and its column, one whose polynomial both divide, and no shorter one."""
    more = divided(kind, other[0], common_part(kind, one[0], other[0]))[0]
    if len(more) == 1:
        return one
    # The parts of the second polynomial: what the first one has at least as much of, and what it has less of.
    idle = part_without(kind, other[0], more)
    needed = divided(kind, other[0], idle)[0]
    left = image_at(kind, divided(kind, needed, more)[0], A, one[1])
    right = image_at(kind, idle, A, other[1])
    return (Polys(kind).times(one[0], more), plus_row(kind, left, right))


def gathered(kind, A, bound, least_at):
    """A shortest polynomial that those of all unit columns divide, and a column that has it.

    The polynomial of the unit column with one at a place is least_at(place). Where a polynomial of bound numbers is
    found, there is none with more, so the places behind it are not asked.
    """
    found = ([kind.number(1)], [kind.number(0) for row in A])
    for place in range(len(A)):
        if len(found[0]) < bound:
            found = joined(kind, A, found, (least_at(place), unit_row(kind, len(A), place)))
    return found


def least(kind, A):
    whole = great(kind, A)
    return gathered(kind, A, len(whole), lambda place: least_within(kind, A, whole, unit_row(kind, len(A), place)))
