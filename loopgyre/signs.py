"""Tables of signs: what a state is, and the first fault of another thing."""

from loopgyre.kinds import is_size, is_whole


def is_sign(thing):
    return is_whole(thing) and -1 <= thing <= 1


def is_row(thing, n):
    return isinstance(thing, list) and len(thing) == n and all([is_sign(sign) for sign in thing])


def is_table(thing):
    if not isinstance(thing, list) or not is_size(len(thing)):
        return False
    return all([is_row(row, len(thing)) for row in thing])


def is_off(total, at_end):
    # Sums that stay 0 or 1 and end at 1 say the same as 1 and -1 by turns,
    # the first and the last of them 1, and show at once where it fails.
    return total != 1 if at_end else total not in (0, 1)


def table_fault(table):
    n = len(table)
    columns = [0] * n
    for r in range(n):
        across = 0
        for c in range(n):
            across += table[r][c]
            columns[c] += table[r][c]
            if is_off(across, c == n - 1) or is_off(columns[c], r == n - 1):
                return (r, c)
    return None


def is_state(thing):
    return is_table(thing) and table_fault(thing) is None


def signs_fault(thing):
    return table_fault(thing) if is_table(thing) else None
