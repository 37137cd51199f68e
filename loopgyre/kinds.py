"""What several modules ask of things: whether one is a number, a size, a grid, or two states are of one size."""

from loopgyre.errors import NoSize, Unlike

GREATEST_SIZE = 12


def is_whole(thing):
    # Python counts the truths among its ints; here they are no numbers.
    return isinstance(thing, int) and not isinstance(thing, bool)


def is_size_to(thing, most):
    return is_whole(thing) and 1 <= thing <= most


def is_size(thing):
    return is_size_to(thing, GREATEST_SIZE)


def need_size_to(n, most):
    if not is_size_to(n, most):
        raise NoSize(f"the size is to be a whole number from 1 to {most}")


def need_size(n):
    need_size_to(n, GREATEST_SIZE)


def need_alike(one, other):
    if len(one) != len(other):
        raise Unlike("the two states are of unlike sizes")


def is_number_row(thing, length):
    return isinstance(thing, list) and len(thing) == length and all([is_whole(part) for part in thing])


def is_row_below(thing, length, bound):
    return is_number_row(thing, length) and all([0 <= number < bound for number in thing])


def is_number_grid(thing, rows, columns):
    if not isinstance(thing, list) or len(thing) != rows:
        return False
    return all([is_number_row(row, columns) for row in thing])


def are_among(row, numbers):
    return all([number in numbers for number in row])


def is_grid_of(thing, rows, columns, numbers):
    # The kinds come first: a truth counts as equal to a number, but is none.
    return is_number_grid(thing, rows, columns) and all([are_among(row, numbers) for row in thing])
