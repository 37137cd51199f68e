"""Counts: how many states there are, and by the 1 of their top row, in three ways."""

from loopgyre.books import states
from loopgyre.kinds import need_size_to

GREATEST_STEPPED = 7
GREATEST_PRODUCT = 30


def by_walking(n):
    return len(states(n))


def tops_by_walking(n):
    tops = [state[0].index(1) for state in states(n)]
    return [tops.count(c) for c in range(n)]


def longer_lists(lists, low, high):
    told = []
    for columns in lists:
        for column in range(low, high + 1):
            if columns == () or column > columns[-1]:
                told.append(columns + (column,))
    return told


def lists_behind(columns, n):
    # Its numbers lie by turns with those of the list ahead: the first one from
    # column 0 on, the last one up to column n - 1.
    bounds = (0,) + columns + (n - 1,)
    told = [()]
    for low, high in zip(bounds, bounds[1:]):
        told = longer_lists(told, low, high)
    return told


def stepped(ways, n):
    further = {}
    for columns in ways:
        for behind in lists_behind(columns, n):
            so_far = further.get(behind, [0] * n)
            further[behind] = [number + more for number, more in zip(so_far, ways[columns])]
    return further


def tops_by_steps(n):
    need_size_to(n, GREATEST_STEPPED)
    # For each list, by the column of the first one: how many triangles lead to it.
    ways = {}
    for c in range(n):
        ways[(c,)] = [1 if top == c else 0 for top in range(n)]
    for k in range(1, n):
        ways = stepped(ways, n)
    return ways[tuple(range(n))]


def by_steps(n):
    return sum(tops_by_steps(n))


def product_above(low, high):
    told = 1
    for factor in range(low + 1, high + 1):
        told *= factor
    return told


def factorial(m):
    return product_above(0, m)


def fraction_to(n, factors):
    # Of (3 j + 1)! / (n + j)! only what is left of the greater one: so both
    # numbers stay small.
    over = 1
    under = 1
    for j in range(factors):
        over *= product_above(n + j, 3 * j + 1)
        under *= product_above(3 * j + 1, n + j)
    return (over, under)


def by_product(n):
    need_size_to(n, GREATEST_PRODUCT)
    fraction = fraction_to(n, n)
    return fraction[0] // fraction[1]


def top_by_product(n, c, fraction):
    over = fraction[0] * factorial(n + c - 1) * factorial(2 * n - 2 - c)
    under = fraction[1] * factorial(c) * factorial(n - 1) * factorial(n - 1 - c)
    return over // under


def tops_by_product(n):
    need_size_to(n, GREATEST_PRODUCT)
    fraction = fraction_to(n, n - 1)
    return [top_by_product(n, c, fraction) for c in range(n)]
