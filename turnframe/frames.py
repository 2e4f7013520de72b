"""Frames: the chain of a square table, the table of its blocks, and the turns between both."""

from turnframe.solving import inverse
from turnframe.splits import chain_of, heads
from turnframe.tables import image, set_down, turned


def companion(kind, f):
    degree = len(f) - 1
    rows = []
    for place in range(degree):
        row = [kind.number(1 if column == place - 1 else 0) for column in range(degree)]
        row[-1] = kind.minus(kind.number(0), f[place])
        rows.append(row)
    return rows


def blocks(kind, chain):
    return set_down(kind, [companion(kind, f) for f in chain])


def turns_of(kind, columns):
    """The table of these columns, and its inverse."""
    # The columns are inverted as rows: each has bottoms of its own, and those of a row are taken from it at once.
    return (turned(columns), turned(inverse(kind, columns)))


def led_columns(kind, A, head):
    """A head's column, its image, the image of that, and so on: one for each row of its companion."""
    column = head[1]
    columns = []
    for turn in range(len(head[0]) - 1):
        columns.append(column)
        column = image(kind, A, column)
    return columns


def frame_by(kind, A, some):
    """The frame of A, some being its heads."""
    columns = []
    for head in some:
        columns.extend(led_columns(kind, A, head))
    both = turns_of(kind, columns)
    return (chain_of(some), both[0], both[1])


def frame(kind, A):
    return frame_by(kind, A, heads(kind, A))
