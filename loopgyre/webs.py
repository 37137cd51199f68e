"""Webs: links that don't cross, listed by their size, and joined, turned and mirrored."""

from loopgyre.floors import need_road
from loopgyre.kinds import is_row_below, is_size, need_size_to

GREATEST_LISTED = 6


def is_pairing(row):
    return all([far != k and row[far] == k for k, far in enumerate(row)])


def is_uncrossed(pairing):
    # Going round, the link that ends must be the one begun last: any other one
    # would end on the far side of a link that is still open.
    begun = []
    for k, far in enumerate(pairing):
        if far > k:
            begun.append(k)
        elif begun.pop() != far:
            return False
    return True


def is_web(thing):
    if not isinstance(thing, list) or len(thing) % 2 == 1 or not is_size(len(thing) // 2):
        return False
    return is_row_below(thing, len(thing), len(thing)) and is_pairing(thing) and is_uncrossed(thing)


def shifted(web, step):
    return [far + step for far in web]


def webs_made_of(told, size):
    # The link of road 0 parts the others: a smaller web lies within it, another
    # one behind it.
    made = []
    for within in range(size):
        end = 2 * within + 1
        for inner in told[within]:
            for outer in told[size - 1 - within]:
                made.append([end] + shifted(inner, 1) + [0] + shifted(outer, end + 1))
    return made


def webs(n):
    need_size_to(n, GREATEST_LISTED)
    told = [[[]]]
    for size in range(1, n + 1):
        told.append(webs_made_of(told, size))
    return sorted(told[n])


def joined(web, k):
    need_road(k, len(web))
    beside = (k + 1) % len(web)
    told = list(web)
    # Where the two are linked already, this leaves them so.
    told[web[k]] = web[beside]
    told[web[beside]] = web[k]
    told[k] = beside
    told[beside] = k
    return told


def turned_web(web, t):
    roads = len(web)
    return [(web[(k - t) % roads] + t) % roads for k in range(roads)]


def mirrored_web(web):
    roads = len(web)
    return [(-web[(-k) % roads]) % roads for k in range(roads)]
