"""Tables of signs: what a state is, and the first fault of another thing."""

from loopgyre.kinds import is_grid_of, is_size


def is_table(thing):
    if not isinstance(thing, list) or not is_size(len(thing)):
        return False
    return is_grid_of(thing, len(thing), len(thing), (1, 0, -1))


def is_off(total, at_end):
    # Sums that stay 0 or 1 and end at 1 say the same as 1 and -1 by turns,
    # the first and the last of them 1, and show at once where it fails.
    return total != 1 if at_end else total not in (0, 1)


def table_fault(table):
    n = len(table)
    columns = [0] * n
    for r in range(n):
        across = 0
        for c in range(n):
            across += table[r][c]
            columns[c] += table[r][c]
            if is_off(across, c == n - 1) or is_off(columns[c], r == n - 1):
                return (r, c)
    return None


def is_state(thing):
    return is_table(thing) and table_fault(thing) is None


def signs_fault(thing):
    return table_fault(thing) if is_table(thing) else None


def column_sums(state):
    # At [i][c] the sum of column c in the rows below i: what heights, arrows
    # and triangles are all told by.
    sums = [0] * len(state)
    told = [sums]
    for row in state:
        sums = [total + sign for total, sign in zip(sums, row)]
        told.append(sums)
    return told


def column_of(state, c):
    return [row[c] for row in state]
