"""What several modules ask of a thing: whether it is a whole number, a size."""

from loopgyre.errors import NoSize

GREATEST_SIZE = 12


def is_whole(thing):
    # Python counts the truths among its ints; here they are no numbers.
    return isinstance(thing, int) and not isinstance(thing, bool)


def is_size(thing):
    return is_whole(thing) and 1 <= thing <= GREATEST_SIZE


def need_size(n):
    if not is_size(n):
        raise NoSize("a size is a whole number from 1 to 12")
