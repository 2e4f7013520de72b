"""Steps: the turns from a table to its reduced one, its rank and its kernel."""

from turnframe.turns import make_turn


def is_idle(kind, turn):
    if turn[0] == "scale":
        return turn[2] == kind.number(1)
    return turn[0] == "add" and kind.is_nought(turn[3])


def take(kind, rows, turns, turn):
    if not is_idle(kind, turn):
        make_turn(kind, rows, turn)
        turns.append(turn)


def take_bottoms(kind, rows, turns):
    for place in range(len(rows)):
        take(kind, rows, turns, ("scale", place, kind.number(kind.common_bottom(rows[place]))))


def first_filled(kind, rows, start, column):
    for place in range(start, len(rows)):
        if not kind.is_nought(rows[place][column]):
            return place
    return len(rows)


def empty_column(kind, rows, turns, lead, column, last):
    """Makes noughts of a lead's column, but for the lead, and all leads so far the same number.

    Each row is scaled by the new lead and then by the last one's back, in the place of one turn with a fraction. Where
    the rows began without bottoms, they so stay without them: all their numbers are minors of the table at the start.
    """
    head = rows[lead][column]
    back = kind.back(last)
    for place in range(len(rows)):
        if place != lead:
            less = kind.minus(kind.number(0), rows[place][column])
            take(kind, rows, turns, ("scale", place, head))
            take(kind, rows, turns, ("add", place, lead, less))
            take(kind, rows, turns, ("scale", place, back))


def emptied(kind, table):
    """Rows reduced but for the worth of their leads, the turns to them, the leads' columns, and what all leads are.

    Of a square table without bottoms that has a lead in each row, what all leads are is the determinant, but for the
    sign, which each swap turns round.
    """
    rows = list(table)
    turns = []
    leads = []
    last = kind.number(1)
    take_bottoms(kind, rows, turns)
    for column in range(len(table[0])):
        lead = len(leads)
        found = first_filled(kind, rows, lead, column)
        if found < len(rows):
            if found != lead:
                take(kind, rows, turns, ("swap", lead, found))
            empty_column(kind, rows, turns, lead, column, last)
            last = rows[lead][column]
            leads.append(column)
    return (rows, turns, leads, last)


def steps(kind, table):
    found = emptied(kind, table)
    rows = found[0]
    turns = found[1]
    back = kind.back(found[3])
    for lead in range(len(found[2])):
        take(kind, rows, turns, ("scale", lead, back))
    return ([list(row) for row in rows], turns, found[2])


def rank(kind, table):
    return len(emptied(kind, table)[2])


def kernel_column(kind, reduced, leads, place):
    column = [kind.number(0) for each in reduced[0]]
    column[place] = kind.number(1)
    for row, lead in zip(reduced, leads):
        column[lead] = kind.minus(kind.number(0), row[place])
    return column


def free_kernel(kind, table):
    """The kernel, and the places of the columns without a lead: there each column of the room has its multiples."""
    found = steps(kind, table)
    places = [place for place in range(len(table[0])) if place not in found[2]]
    return ([kernel_column(kind, found[0], found[2], place) for place in places], places)


def kernel(kind, table):
    return free_kernel(kind, table)[0]
