"""Determinants without division."""

from turnframe.polys import product_number
from turnframe.tables import column_at, freed, need_square, sums_with
from turnframe.wholes import sign_of


def corner_numbers(kind, table, size):
    """What the row and the column right beyond the first size rows and columns bring to the next determinant.

    That is one, and then, each taken less than nought, the number where that row and column meet, and the row times
    the column, times the column's image, times the image of that, and so on.
    """
    row = table[size][:size]
    inner = [each[:size] for each in table[:size]]
    column = column_at(table[:size], size)
    falling = [kind.number(1), kind.minus(kind.number(0), table[size][size])]
    for turn in range(size):
        falling.append(kind.minus(kind.number(0), kind.sum_of_products(row, column)))
        column = sums_with(kind, inner, column)
    return falling


def falling_numbers(kind, table):
    """The numbers of the determinant of x less a square table, those with the highest power of x first.

    This is the way of Samuelson and Berkowitz: the table grows by one row and one column at a time, and only sums,
    differences and products are asked of the kind.
    """
    numbers = [kind.number(1)]
    for size in range(len(table)):
        corner = corner_numbers(kind, table, size)
        numbers = [product_number(kind, corner, numbers, place) for place in range(size + 2)]
    return numbers


def without(kind, table):
    need_square(table)
    part = freed(kind, table)
    last = falling_numbers(kind, part[0])[-1]
    return kind.times(last, kind.number(sign_of(len(table)), part[1]))
