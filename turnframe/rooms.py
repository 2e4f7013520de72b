"""Rooms of columns that a square table keeps."""

from turnframe.leasts import climbed, great, need_column
from turnframe.steps import steps
from turnframe.tables import need_square


def filled_rows(kind, table):
    """The rows of the reduced table, without those of noughts."""
    found = steps(kind, table)
    return found[0][:len(found[2])]


def room(kind, A, columns):
    need_square(A)
    for column in columns:
        need_column(A, column)
    whole = great(kind, A)
    rows = []
    for column in columns:
        if len(rows) < len(A):
            rows = filled_rows(kind, rows + climbed(kind, whole, A, column)[:-1])
    return rows
