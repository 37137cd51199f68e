"""Walked sides: a state told by the sides that its ways and rings go over."""

from loopgyre.arrows import arrows_of, is_side_pair, state_of_arrows
from loopgyre.errors import NoState


def is_odd(number):
    return number % 2 == 1


def walked_row(i, row):
    return [1 if (arrow == 1) == is_odd(i + j) else 0 for j, arrow in enumerate(row)]


def arrow_row(i, row):
    return [1 if (walked == 1) == is_odd(i + j) else -1 for j, walked in enumerate(row)]


def walked_grid(grid):
    return [walked_row(i, row) for i, row in enumerate(grid)]


def arrow_grid(grid):
    return [arrow_row(i, row) for i, row in enumerate(grid)]


def sides_of(state):
    pair = arrows_of(state)
    return (walked_grid(pair[0]), walked_grid(pair[1]))


def state_of_sides(thing):
    if not is_side_pair(thing, (1, 0)):
        raise NoState(None)
    # The walked sides of a place are those whose arrows come in, or else those
    # whose arrows go out: so the first fault of the arrows lies at the same place.
    return state_of_arrows((arrow_grid(thing[0]), arrow_grid(thing[1])))
