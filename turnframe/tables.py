"""Tables of numbers: what is one, and their sums, products and images."""

from turnframe.errors import NoFit

MOST = 7


def is_short_list(thing):
    return isinstance(thing, list) and 1 <= len(thing) <= MOST


def is_row(kind, thing):
    return is_short_list(thing) and all([kind.is_number(each) for each in thing])


def is_table(kind, thing):
    if not is_short_list(thing) or not all([is_row(kind, row) for row in thing]):
        return False
    return all([len(row) == len(thing[0]) for row in thing])


def is_square(table):
    return len(table) == len(table[0])


def need_square(table):
    if not is_square(table):
        raise NoFit("a table with as many rows as columns is needed")


def unit_row(kind, size, place):
    # Each number is made by itself: where numbers are lists, no two places may hold the same one.
    return [kind.number(1 if column == place else 0) for column in range(size)]


def unit(kind, size):
    return [unit_row(kind, size, place) for place in range(size)]


def column_at(table, place):
    return [row[place] for row in table]


def turned(table):
    return [column_at(table, place) for place in range(len(table[0]))]


def scaled_row(kind, number, row):
    return [kind.times(number, each) for each in row]


def scaled(kind, number, table):
    return [scaled_row(kind, number, row) for row in table]


def plus_row(kind, row, other):
    return [kind.plus(left, right) for left, right in zip(row, other)]


def plus_table(kind, A, B):
    if len(A) != len(B) or len(A[0]) != len(B[0]):
        raise NoFit("a sum is of two tables with as many rows and as many columns")
    return [plus_row(kind, row, other) for row, other in zip(A, B)]


def sums_with(kind, table, column):
    return [kind.sum_of_products(row, column) for row in table]


def image(kind, table, column):
    if len(column) != len(table[0]):
        raise NoFit("an image is of a column with as many numbers as the table has columns")
    return sums_with(kind, table, column)


def times_table(kind, A, B):
    if len(A[0]) != len(B):
        raise NoFit("a product is of a table with as many columns as the second one has rows")
    columns = turned(B)
    return [sums_with(kind, columns, row) for row in A]


def nought_row(kind, size):
    return [kind.number(0) for place in range(size)]


def set_down(kind, parts):
    """Square tables one after the other down where row and column are the same, and nought elsewhere."""
    size = sum([len(part) for part in parts])
    rows = []
    for part in parts:
        ahead = nought_row(kind, len(rows))
        behind = nought_row(kind, size - len(rows) - len(part))
        rows.extend([ahead + row + behind for row in part])
    return rows


def freed(kind, table):
    """The table with each row times a whole number that takes its bottoms, and the product of these numbers.

    So the determinant is taken times that product. Of many fractions sums and products are quick where all bottoms
    are 1, and slow where each sum has a greater bottom than the one before.
    """
    rows = []
    bottom = 1
    for row in table:
        factor = kind.common_bottom(row)
        rows.append(scaled_row(kind, kind.number(factor), row))
        bottom *= factor
    return (rows, bottom)


def plain_row(kind, row):
    """The multiple of a row, not all noughts, without bottoms and without a common divisor of the tops."""
    return scaled_row(kind, kind.number(kind.common_bottom(row), kind.common_top(row)), row)


def evenly_freed(kind, table):
    """The table times one whole number that takes all of its bottoms, and that number."""
    numbers = []
    for row in table:
        numbers.extend(row)
    bottom = kind.common_bottom(numbers)
    return (scaled(kind, kind.number(bottom), table), bottom)
