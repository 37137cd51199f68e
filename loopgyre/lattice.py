"""The lattice of states: which lies beneath which, the meet and the join, the least and the greatest one."""

from loopgyre.heights import heights_of, signs_of_heights
from loopgyre.kinds import need_alike, need_size


def is_row_beneath(row, above):
    return all([height <= bound for height, bound in zip(row, above)])


def lies_beneath(one, other):
    need_alike(one, other)
    return all([is_row_beneath(row, above) for row, above in zip(heights_of(one), heights_of(other))])


def lesser_row(one, other):
    return [min(height, beside) for height, beside in zip(one, other)]


def greater_row(one, other):
    return [max(height, beside) for height, beside in zip(one, other)]


def meet(one, other):
    need_alike(one, other)
    return signs_of_heights([lesser_row(row, beside) for row, beside in zip(heights_of(one), heights_of(other))])


def join(one, other):
    need_alike(one, other)
    return signs_of_heights([greater_row(row, beside) for row, beside in zip(heights_of(one), heights_of(other))])


def least_row(n, i):
    return [abs(i - j) for j in range(n + 1)]


def greatest_row(n, i):
    return [min(i + j, 2 * n - i - j) for j in range(n + 1)]


def least(n):
    need_size(n)
    return signs_of_heights([least_row(n, i) for i in range(n + 1)])


def greatest(n):
    need_size(n)
    return signs_of_heights([greatest_row(n, i) for i in range(n + 1)])
