"""Arrows: a state told by the way in which each side points."""

from loopgyre.errors import NoState
from loopgyre.kinds import is_grid_of, is_size
from loopgyre.signs import column_sums


def across_row(row):
    total = 0
    told = [1]
    for sign in row:
        total += sign
        told.append(1 - 2 * total)
    return told


def down_row(sums):
    return [2 * total - 1 for total in sums]


def arrows_of(state):
    across = [across_row(row) for row in state]
    down = [down_row(sums) for sums in column_sums(state)]
    return (across, down)


def is_side_pair(thing, numbers):
    if not isinstance(thing, tuple) or len(thing) != 2:
        return False
    across = thing[0]
    if not isinstance(across, list) or not is_size(len(across)):
        return False
    n = len(across)
    return is_grid_of(across, n, n + 1, numbers) and is_grid_of(thing[1], n + 1, n, numbers)


def is_faulty_place(across, down, r, c):
    # Told from the place: 1 where the arrow comes in, -1 where it goes out.
    left = across[r][c]
    right = -across[r][c + 1]
    above = down[r][c]
    below = -down[r + 1][c]
    last = len(across) - 1
    if left + right + above + below != 0:
        return True
    if (c == 0 and left == -1) or (c == last and right == -1):
        return True
    return (r == 0 and above == 1) or (r == last and below == 1)


def first_faulty_place(across, down):
    for r in range(len(across)):
        for c in range(len(across)):
            if is_faulty_place(across, down, r, c):
                return (r, c)
    return None


def signs_of_row(row):
    return [(row[c] - row[c + 1]) // 2 for c in range(len(row) - 1)]


def state_of_arrows(thing):
    if not is_side_pair(thing, (1, -1)):
        raise NoState(None)
    spot = first_faulty_place(thing[0], thing[1])
    if spot is not None:
        raise NoState(spot)
    return [signs_of_row(row) for row in thing[0]]
