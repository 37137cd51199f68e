"""Great turns: all small squares of a shade at once, and the state crossed and mirrored."""

from loopgyre.floors import squares_within
from loopgyre.heights import heights_of, signs_of_heights
from loopgyre.signs import column_of
from loopgyre.turns import height_turned, is_level_round


def half_turn(state, shade):
    table = heights_of(state)
    # The points beside a small square are none of its shade: so one turned
    # behind the other they come out as at once.
    for i, j in squares_within(len(state), shade):
        if is_level_round(table, i, j):
            table[i][j] = height_turned(table, i, j)
    return signs_of_heights(table)


def great_turn(state):
    return half_turn(half_turn(state, "light"), "dark")


def great_turn_back(state):
    return half_turn(half_turn(state, "dark"), "light")


def crossed(state):
    return [column_of(state, c) for c in range(len(state))]


def mirrored(state):
    return half_turn(crossed(state), "light")
