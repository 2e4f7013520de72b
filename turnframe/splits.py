"""How a square table splits: columns that, with their images, part the whole room among them."""

from turnframe.leasts import climbed, gathered, least, tops_over
from turnframe.polys import common_part, divided
from turnframe.steps import free_kernel
from turnframe.tables import image, plain_row, turned


def facing(kind, A, head):
    """Numbers for the rows whose least polynomial, asked of the head's room alone, is the head's own.

    The numbers that pick one row have there what the head's polynomial does not share with that row's top over it.
    """
    f = head[0]
    tops = tops_over(kind, f, A, head[1])
    found = gathered(kind, turned(A), len(f), lambda place: divided(kind, f, common_part(kind, f, tops[place]))[0])
    return found[1]


def left_room(kind, A, head):
    """A room that A keeps and that has just what the head's room leaves: A's table within it, and its columns.

    It has the columns whose sums of products are nought with the facing numbers and with all that A turned makes of
    them. A keeps them, since the facing numbers need no more than the head's polynomial; and of the head's room only
    noughts are among them, since there the facing numbers need all of it.
    """
    rows = climbed(kind, head[0], turned(A), facing(kind, A, head))[:-1]
    found = free_kernel(kind, rows)
    images = turned([image(kind, A, column) for column in found[0]])
    return ([images[place] for place in found[1]], turned(found[0]))


def heads(kind, A):
    """A list of tuples of a polynomial and a column: the chain of a square table, and columns that lead to its frame.

    Each polynomial is the least one of its column, and the columns' rooms part the whole room among them. Where the
    table is not square, it is refused with NoFit, as its least polynomial is.
    """
    found = [least(kind, A)]
    if len(found[0][0]) <= len(A):
        left = left_room(kind, A, found[0])
        for f, column in heads(kind, left[0]):
            found.append((f, image(kind, left[1], column)))
    # Any multiple of a column serves as well, and a plain one has the smallest numbers.
    return [(f, plain_row(kind, column)) for f, column in found]


def chain_of(some):
    """The chain alone, some being heads."""
    return [head[0] for head in some]
