"""Nearly diagonal tables, and the turns that lead a square table to one, where its roots are enough."""

from turnframe.frames import turns_of
from turnframe.leasts import image_at
from turnframe.polys import Polys, divided, raised
from turnframe.roots import roots, roots_and_left
from turnframe.splits import heads
from turnframe.tables import image, plain_row, plus_row, scaled_row, set_down


def near_block(kind, root, size):
    rows = []
    for place in range(size):
        row = [kind.number(1 if column == place - 1 else 0) for column in range(size)]
        row[place] = root
        rows.append(row)
    return rows


def nearly(kind, some):
    return set_down(kind, [near_block(kind, root, size) for root, size in some])


def near_columns(kind, A, head, root, times):
    """The columns that lead to the block of one root: each is the image, under A less the root, of the one ahead.

    The first one is what the head's column leaves when all other roots of its polynomial are taken from it.
    """
    less = kind.minus(kind.number(0), root)
    factor = raised(Polys(kind), [less, kind.number(1)], times)
    column = plain_row(kind, image_at(kind, divided(kind, head[0], factor)[0], A, head[1]))
    columns = []
    for turn in range(times):
        columns.append(column)
        column = plus_row(kind, image(kind, A, column), scaled_row(kind, less, column))
    return columns


def near(kind, A):
    some = heads(kind, A)
    left = roots_and_left(kind, some[0][0])[1]
    if len(left) > 1:
        return ("left", left)
    answer = []
    columns = []
    for head in some:
        for root, times in roots(kind, head[0]):
            answer.append((root, times))
            columns.extend(near_columns(kind, A, head, root, times))
    both = turns_of(kind, columns)
    return ("near", answer, both[0], both[1])
