import unittest

from loopgyre.errors import GyreError, NoRoad, NoSize
from loopgyre.floors import place_of, road_of, squares

SIZES = range(1, 13)
NO_SIZES = (0, -1, -2, -12, 13, 14, 100, 10 ** 29, -(10 ** 29))
SIDES = ("U", "R", "D", "L")
SHADES = ("light", "dark")


def rim(n):
    """The places and sides that one passes on a walk round the floor."""
    walk = [(0, c, "U") for c in range(n)]
    walk += [(r, n - 1, "R") for r in range(n)]
    walk += [(n - 1, c, "D") for c in reversed(range(n))]
    walk += [(r, 0, "L") for r in reversed(range(n))]
    return walk


def sides_of_square(i, j):
    """The sides of a small square, each as the pair of its places."""
    above_left, above_right, below_left, below_right = (i - 1, j - 1), (i - 1, j), (i, j - 1), (i, j)
    return [
        (above_left, above_right),
        (above_right, below_right),
        (below_left, below_right),
        (above_left, below_left),
    ]


class Roads(unittest.TestCase):
    def test_every_side_of_every_place(self):
        for n in SIZES:
            numbers = {spot: number for number, spot in enumerate(rim(n))}
            self.assertEqual(len(numbers), 4 * n)
            for r in range(n):
                for c in range(n):
                    for side in SIDES:
                        with self.subTest(n=n, r=r, c=c, side=side):
                            self.assertEqual(road_of(n, r, c, side), numbers.get((r, c, side)))

    def test_a_number_just_where_the_side_goes_over_the_rim(self):
        steps = {"U": (-1, 0), "R": (0, 1), "D": (1, 0), "L": (0, -1)}
        for n in SIZES:
            for r in range(n):
                for c in range(n):
                    for side, (down, right) in steps.items():
                        with self.subTest(n=n, r=r, c=c, side=side):
                            inside = 0 <= r + down < n and 0 <= c + right < n
                            self.assertEqual(road_of(n, r, c, side) is None, inside)

    def test_each_number_once(self):
        for n in SIZES:
            told = [road_of(n, r, c, side) for r in range(n) for c in range(n) for side in SIDES]
            with self.subTest(n=n):
                self.assertEqual(sorted(road for road in told if road is not None), list(range(4 * n)))

    def test_the_one_place_of_size_one_has_all_four_roads(self):
        self.assertEqual([road_of(1, 0, 0, side) for side in SIDES], [0, 1, 2, 3])

    def test_corners_of_size_three(self):
        self.assertEqual([road_of(3, 0, 0, side) for side in SIDES], [0, None, None, 11])
        self.assertEqual([road_of(3, 0, 2, side) for side in SIDES], [2, 3, None, None])
        self.assertEqual([road_of(3, 2, 2, side) for side in SIDES], [None, 5, 6, None])
        self.assertEqual([road_of(3, 2, 0, side) for side in SIDES], [None, None, 8, 9])
        self.assertEqual([road_of(3, 1, 1, side) for side in SIDES], [None] * 4)

    def test_places_beyond_the_floor_have_no_road(self):
        for r, c in ((0, 3), (0, -1), (3, 0), (-1, 0), (-1, 2), (3, 2), (1, 3), (7, 7)):
            for side in SIDES:
                with self.subTest(r=r, c=c, side=side):
                    self.assertIsNone(road_of(3, r, c, side))

    def test_no_size(self):
        for n in NO_SIZES:
            for r, c in ((0, 0), (n - 1, n - 1)):
                for side in SIDES:
                    with self.subTest(n=n, side=side), self.assertRaises(NoSize):
                        road_of(n, r, c, side)


class Places(unittest.TestCase):
    def test_every_road(self):
        for n in SIZES:
            with self.subTest(n=n):
                self.assertEqual([place_of(n, road) for road in range(4 * n)], rim(n))

    def test_leads_back(self):
        for n in SIZES:
            for road in range(4 * n):
                with self.subTest(n=n, road=road):
                    told = place_of(n, road)
                    self.assertIsInstance(told, tuple)
                    self.assertEqual(road_of(n, *told), road)

    def test_no_road(self):
        for n in SIZES:
            for road in (-1, -n, -4 * n, 4 * n, 4 * n + 1, 8 * n, 10 ** 29, -(10 ** 29)):
                with self.subTest(n=n, road=road), self.assertRaises(NoRoad):
                    place_of(n, road)

    def test_no_size_comes_ahead_of_no_road(self):
        for n in NO_SIZES:
            for road in (0, 1, -1, 4 * n, 10 ** 29):
                with self.subTest(n=n, road=road), self.assertRaises(NoSize):
                    place_of(n, road)

    def test_what_is_refused_changes_nothing(self):
        before = [place_of(2, road) for road in range(8)]
        for n, road in ((2, 8), (2, -1), (13, 0)):
            with self.assertRaises(GyreError):
                place_of(n, road)
        self.assertEqual([place_of(2, road) for road in range(8)], before)


class Squares(unittest.TestCase):
    def test_every_size_and_shade(self):
        for n in SIZES:
            points = [(i, j) for i in range(n + 1) for j in range(n + 1)]
            small = [(i, j) for i, j in points if i not in (0, n) and j not in (0, n)]
            with self.subTest(n=n):
                self.assertEqual(squares(n, "light"), [(i, j) for i, j in small if (i + j) % 2 == 0])
                self.assertEqual(squares(n, "dark"), [(i, j) for i, j in small if (i + j) % 2 == 1])

    def test_small_floors(self):
        self.assertEqual(squares(1, "light"), [])
        self.assertEqual(squares(1, "dark"), [])
        self.assertEqual(squares(2, "light"), [(1, 1)])
        self.assertEqual(squares(2, "dark"), [])
        self.assertEqual(squares(3, "light"), [(1, 1), (2, 2)])
        self.assertEqual(squares(3, "dark"), [(1, 2), (2, 1)])
        self.assertEqual(squares(4, "light"), [(1, 1), (1, 3), (2, 2), (3, 1), (3, 3)])
        self.assertEqual(squares(4, "dark"), [(1, 2), (2, 1), (2, 3), (3, 2)])

    def test_sorted_list_of_tuples(self):
        for n in SIZES:
            for shade in SHADES:
                with self.subTest(n=n, shade=shade):
                    told = squares(n, shade)
                    self.assertIs(type(told), list)
                    self.assertTrue(all(type(point) is tuple for point in told))
                    self.assertEqual(told, sorted(set(told)))

    def test_no_side_in_common_within_a_shade_and_no_road(self):
        for n in SIZES:
            for shade in SHADES:
                with self.subTest(n=n, shade=shade):
                    used = [side for i, j in squares(n, shade) for side in sides_of_square(i, j)]
                    self.assertEqual(len(used), len(set(used)))
                    self.assertTrue(all(0 <= at < n for pair in used for place in pair for at in place))

    def test_the_list_is_the_askers_own(self):
        for n in SIZES:
            for shade in SHADES:
                with self.subTest(n=n, shade=shade):
                    first = squares(n, shade)
                    kept = list(first)
                    first.append("more")
                    first.reverse()
                    second = squares(n, shade)
                    self.assertEqual(second, kept)
                    second.clear()
                    self.assertEqual(squares(n, shade), kept)
                    self.assertEqual(first, ["more"] + kept[::-1])

    def test_no_size(self):
        for n in NO_SIZES:
            for shade in SHADES:
                with self.subTest(n=n, shade=shade), self.assertRaises(NoSize):
                    squares(n, shade)


if __name__ == "__main__":
    unittest.main()
