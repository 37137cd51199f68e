"""Triangles: a state told by the columns that are filled behind each row."""

from loopgyre.errors import NoState
from loopgyre.kinds import is_row_below, is_size
from loopgyre.signs import column_sums


def filled_columns(sums):
    return [c for c, total in enumerate(sums) if total == 1]


def triangle_of(state):
    return [filled_columns(sums) for sums in column_sums(state)[1:]]


def is_column_triangle(thing):
    if not isinstance(thing, list) or not is_size(len(thing)):
        return False
    return all([is_row_below(row, k, len(thing)) for k, row in enumerate(thing, start=1)])


def is_faulty_spot(triangle, k, m):
    row = triangle[k - 1]
    if m > 0 and row[m] <= row[m - 1]:
        return True
    if k == len(triangle):
        return False
    behind = triangle[k]
    return row[m] < behind[m] or row[m] > behind[m + 1]


def first_faulty_spot(triangle):
    for k in range(1, len(triangle) + 1):
        for m in range(k):
            if is_faulty_spot(triangle, k, m):
                return (k, m)
    return None


def column_marks(row, n):
    return [1 if c in row else 0 for c in range(n)]


def signs_of_rows(triangle):
    n = len(triangle)
    state = []
    before = [0] * n
    for row in triangle:
        marks = column_marks(row, n)
        state.append([new - old for new, old in zip(marks, before)])
        before = marks
    return state


def state_of_triangle(thing):
    if not is_column_triangle(thing):
        raise NoState(None)
    spot = first_faulty_spot(thing)
    if spot is not None:
        raise NoState(spot)
    return signs_of_rows(thing)
