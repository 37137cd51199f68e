"""Links: the ways from road to road, what they link, and the rings that are left."""

from loopgyre.floors import need_road, place_at, road_over
from loopgyre.sides import sides_of

# The marks of the sides, as the walked sides of a state tell them.
WALKED = 1
BESIDE = 0

STEPS = {"U": (-1, 0), "R": (0, 1), "D": (1, 0), "L": (0, -1)}


def beyond(n, r, c, side):
    road = road_over(n, r, c, side)
    if road is not None:
        return road
    step = STEPS[side]
    return (r + step[0], c + step[1])


def ends_at(pair, r, c, mark):
    across = pair[0]
    down = pair[1]
    marks = {"U": down[r][c], "R": across[r][c + 1], "D": down[r + 1][c], "L": across[r][c]}
    return [beyond(len(across), r, c, side) for side in marks if marks[side] == mark]


def all_ends(state, mark):
    # For each place what lies beyond its two sides of this mark: another place,
    # or the number of a road.
    pair = sides_of(state)
    ends = {}
    for r in range(len(state)):
        for c in range(len(state)):
            ends[(r, c)] = ends_at(pair, r, c, mark)
    return ends


def trail(ends, behind, start):
    # It ends at a road, which has no ends of its own, or where a ring comes
    # back to what lies behind its start.
    told = [behind, start]
    while told[-1] in ends and told[-1] != behind:
        both = ends[told[-1]]
        told.append(both[1] if both[0] == told[-2] else both[0])
    return told


def road_trail(ends, n, k, mark):
    road = 2 * k if mark == WALKED else 2 * k + 1
    place = place_at(n, road)
    return trail(ends, road, (place[0], place[1]))


def way_over(state, k, mark):
    need_road(k, 2 * len(state))
    return road_trail(all_ends(state, mark), len(state), k, mark)[1:-1]


def way(state, k):
    return way_over(state, k, WALKED)


def way_beside(state, k):
    return way_over(state, k, BESIDE)


def links_over(state, mark):
    n = len(state)
    ends = all_ends(state, mark)
    return [road_trail(ends, n, k, mark)[-1] // 2 for k in range(2 * n)]


def links(state):
    return links_over(state, WALKED)


def links_beside(state):
    return links_over(state, BESIDE)


def places_on_ways(ends, n, mark):
    passed = {}
    for k in range(2 * n):
        for place in road_trail(ends, n, k, mark)[1:-1]:
            passed[place] = True
    return passed


def rings_over(state, mark):
    ends = all_ends(state, mark)
    passed = places_on_ways(ends, len(state), mark)
    told = []
    for start in ends:
        if start not in passed:
            ring = trail(ends, ends[start][0], start)[1:]
            for place in ring:
                passed[place] = True
            told.append(sorted(ring))
    return sorted(told)


def rings(state):
    return rings_over(state, WALKED)


def rings_beside(state):
    return rings_over(state, BESIDE)
