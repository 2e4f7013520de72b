"""Turns: changes of a table's rows, one after the other, and the turns that lead back."""

from turnframe.errors import NoTurn
from turnframe.tables import plus_row, scaled_row
from turnframe.wholes import is_whole


def is_place(rows, thing):
    return is_whole(thing) and 0 <= thing < len(rows)


def is_turn(kind, rows, turn):
    if turn[0] == "scale":
        return is_place(rows, turn[1]) and not kind.is_nought(turn[2])
    if turn[0] != "swap" and turn[0] != "add":
        return False
    return is_place(rows, turn[1]) and is_place(rows, turn[2]) and turn[1] != turn[2]


def make_turn(kind, rows, turn):
    """Changes the list of rows, but none of the rows in it."""
    place = turn[1]
    if turn[0] == "swap":
        kept = rows[place]
        rows[place] = rows[turn[2]]
        rows[turn[2]] = kept
    elif turn[0] == "scale":
        rows[place] = scaled_row(kind, turn[2], rows[place])
    else:
        rows[place] = plus_row(kind, rows[place], scaled_row(kind, turn[3], rows[turn[2]]))


def done(kind, table, turns):
    rows = [list(row) for row in table]
    for turn in turns:
        if not is_turn(kind, rows, turn):
            raise NoTurn("a turn is of unlike rows of the table, and does not scale by nought")
        make_turn(kind, rows, turn)
    return rows


def backward_turn(kind, turn):
    if turn[0] == "scale":
        return ("scale", turn[1], kind.back(turn[2]))
    if turn[0] == "add":
        return ("add", turn[1], turn[2], kind.minus(kind.number(0), turn[3]))
    return turn


def backward(kind, turns):
    return [backward_turn(kind, turn) for turn in reversed(turns)]
