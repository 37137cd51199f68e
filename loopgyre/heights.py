"""Heights: a state told by a number for each point."""

from loopgyre.errors import NoState
from loopgyre.kinds import is_number_grid, is_size
from loopgyre.signs import column_sums


def height_row(i, sums):
    row = [i]
    for total in sums:
        row.append(row[-1] + 1 - 2 * total)
    return row


def heights_of(state):
    return [height_row(i, sums) for i, sums in enumerate(column_sums(state))]


def is_height_table(thing):
    if not isinstance(thing, list) or not is_size(len(thing) - 1):
        return False
    return is_number_grid(thing, len(thing), len(thing))


def rim_height(n, i, j):
    if i == 0 or j == 0:
        return i + j
    if i == n or j == n:
        return 2 * n - i - j
    return None


def is_faulty_point(table, i, j):
    height = table[i][j]
    due = rim_height(len(table) - 1, i, j)
    if due is not None and height != due:
        return True
    if i > 0 and abs(height - table[i - 1][j]) != 1:
        return True
    return j > 0 and abs(height - table[i][j - 1]) != 1


def first_faulty_point(table):
    for i in range(len(table)):
        for j in range(len(table)):
            if is_faulty_point(table, i, j):
                return (i, j)
    return None


def sign_amid(table, r, c):
    return (table[r][c + 1] + table[r + 1][c] - table[r][c] - table[r + 1][c + 1]) // 2


def signs_of_row(table, r):
    return [sign_amid(table, r, c) for c in range(len(table) - 1)]


def signs_of_heights(table):
    return [signs_of_row(table, r) for r in range(len(table) - 1)]


def state_of_heights(thing):
    if not is_height_table(thing):
        raise NoState(None)
    spot = first_faulty_point(thing)
    if spot is not None:
        raise NoState(spot)
    return signs_of_heights(thing)
