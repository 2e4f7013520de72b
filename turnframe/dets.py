"""Determinants by steps and by minors, minors and cofactors."""

from turnframe.steps import emptied
from turnframe.tables import freed, need_square, turned
from turnframe.wholes import sign_of


def by_steps(kind, table):
    need_square(table)
    part = freed(kind, table)
    found = emptied(kind, part[0])
    if len(found[2]) < len(table):
        return kind.number(0)
    swaps = len([turn for turn in found[1] if turn[0] == "swap"])
    return kind.times(found[3], kind.number(sign_of(swaps), part[1]))


def expanded(kind, signed, columns, minors):
    """One minor, by its uppermost row, whose numbers stand in signed as they are and as less than nought."""
    factors = [signed[place % 2][column] for place, column in enumerate(columns)]
    others = [minors[columns[:place] + columns[place + 1:]] for place in range(len(columns))]
    return kind.sum_of_products(factors, others)


def wider_minors(kind, row, minors):
    signed = (row, [kind.minus(kind.number(0), each) for each in row])
    wider = {}
    for columns in minors:
        # Only columns ahead of the first one are added, so that each choice comes up once, rising.
        bound = columns[0] if columns else len(row)
        for column in range(bound):
            chosen = (column,) + columns
            wider[chosen] = expanded(kind, signed, chosen, minors)
    return wider


def minors_of(kind, rows):
    """The minors of all these rows, by the choices of columns, which are rising tuples."""
    minors = {(): kind.number(1)}
    for row in reversed(rows):
        minors = wider_minors(kind, row, minors)
    return minors


def by_minors(kind, table):
    need_square(table)
    part = freed(kind, table)
    minors = minors_of(kind, part[0])
    return kind.times(minors[tuple(range(len(table)))], kind.number(1, part[1]))


def chosen_numbers(row, columns):
    return [row[column] for column in columns]


def minor(kind, table, rows, columns):
    return by_minors(kind, [chosen_numbers(table[row], columns) for row in rows])


def cofactor_column(kind, table, left_out):
    part = freed(kind, table[:left_out] + table[left_out + 1:])
    minors = minors_of(kind, part[0])
    columns = tuple(range(len(table)))
    answer = []
    for place in columns:
        sign = kind.number(sign_of(place + left_out), part[1])
        answer.append(kind.times(sign, minors[columns[:place] + columns[place + 1:]]))
    return answer


def cofactors(kind, table):
    need_square(table)
    return turned([cofactor_column(kind, table, place) for place in range(len(table))])
