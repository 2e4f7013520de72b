"""Inverses, and columns whose image is a given one."""

from turnframe.errors import NoFit, NoInverse
from turnframe.steps import steps
from turnframe.tables import column_at, need_square, scaled_row, unit
from turnframe.turns import done


def inverse(kind, table):
    need_square(table)
    found = steps(kind, table)
    if len(found[2]) < len(table):
        raise NoInverse(len(found[2]))
    return done(kind, unit(kind, len(table)), found[1])


def never(kind, size, turns, place, number):
    # What the turns make of the unit tells each row of the reduced table as a sum of multiples of the table's rows.
    row = done(kind, unit(kind, size), turns)[place]
    return ("never", scaled_row(kind, kind.back(number), row))


def solved(kind, table, column):
    if len(column) != len(table):
        raise NoFit("a table is solved with a column of as many numbers as it has rows")
    found = steps(kind, table)
    leads = found[2]
    goal = column_at(done(kind, [[each] for each in column], found[1]), 0)
    for place in range(len(leads), len(goal)):
        if not kind.is_nought(goal[place]):
            return never(kind, len(goal), found[1], place, goal[place])
    answer = [kind.number(0) for each in table[0]]
    for lead, number in zip(leads, goal):
        answer[lead] = number
    return ("found", answer)
