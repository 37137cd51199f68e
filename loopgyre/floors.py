"""Floors: places, the roads over their rim, and the small squares."""

from loopgyre.errors import NoRoad
from loopgyre.kinds import is_whole, need_size


def is_place(n, r, c):
    return 0 <= r < n and 0 <= c < n


def road_over(n, r, c, side):
    # A place that the floor has not lies in line with roads, but has none.
    if not is_place(n, r, c):
        return None
    if side == "U" and r == 0:
        return c
    if side == "R" and c == n - 1:
        return n + r
    if side == "D" and r == n - 1:
        return 2 * n + (n - 1 - c)
    if side == "L" and c == 0:
        return 3 * n + (n - 1 - r)
    return None


def road_of(n, r, c, side):
    need_size(n)
    return road_over(n, r, c, side)


def need_road(road, roads):
    if not (is_whole(road) and 0 <= road < roads):
        raise NoRoad("the floor has not this road")


def place_at(n, road):
    stretch = road // n
    t = road % n
    if stretch == 0:
        return (0, t, "U")
    if stretch == 1:
        return (t, n - 1, "R")
    if stretch == 2:
        return (n - 1, n - 1 - t, "D")
    return (n - 1 - t, 0, "L")


def place_of(n, road):
    need_size(n)
    need_road(road, 4 * n)
    return place_at(n, road)


def is_square(n, i, j):
    return is_whole(i) and is_whole(j) and 0 < i < n and 0 < j < n


def shade_of(i, j):
    return "light" if (i + j) % 2 == 0 else "dark"


def squares_within(n, shade):
    points = []
    for i in range(1, n):
        for j in range(1, n):
            if shade_of(i, j) == shade:
                points.append((i, j))
    return points


def squares(n, shade):
    need_size(n)
    return squares_within(n, shade)
