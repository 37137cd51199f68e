"""Turns of small squares: which can be turned, what comes of it, and the turns between two states."""

from loopgyre.errors import NoSquare, NoTurn
from loopgyre.floors import is_square
from loopgyre.heights import heights_of, signs_of_heights
from loopgyre.kinds import need_alike


def need_square(state, i, j):
    if not is_square(len(state), i, j):
        raise NoSquare("the floor has not this small square")


def is_level_round(table, i, j):
    height = table[i - 1][j]
    return table[i + 1][j] == height and table[i][j - 1] == height and table[i][j + 1] == height


def height_turned(table, i, j):
    return 2 * table[i - 1][j] - table[i][j]


def can_turn(state, i, j):
    need_square(state, i, j)
    return is_level_round(heights_of(state), i, j)


def turned(state, i, j):
    need_square(state, i, j)
    table = heights_of(state)
    if not is_level_round(table, i, j):
        raise NoTurn("the heights round this small square are not alike")
    table[i][j] = height_turned(table, i, j)
    return signs_of_heights(table)


def row_difference(one, other):
    return sum([abs(height - due) for height, due in zip(one, other)])


def apart(one, other):
    need_alike(one, other)
    return sum([row_difference(row, due) for row, due in zip(heights_of(one), heights_of(other))]) // 2


def falls(upper, lower):
    # A point falls only from above all its neighbours: so what is highest falls
    # first, and each neighbour has then come down as far as it must.
    told = []
    for i in range(len(upper)):
        for j in range(len(upper)):
            for height in range(upper[i][j], lower[i][j], -2):
                told.append((height, i, j))
    return [(i, j) for height, i, j in sorted(told, reverse=True)]


def turns_between(one, other):
    need_alike(one, other)
    start = heights_of(one)
    goal = heights_of(other)
    # What must rise falls on the way back. No point that falls lies beside one
    # that rises, so either may come first.
    return falls(start, goal) + list(reversed(falls(goal, start)))
