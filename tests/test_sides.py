from loopgyre.floors import road_of
from loopgyre.sides import sides_of, state_of_sides
from samples import SIZES, FormCase, PairTests, diagonal, sides_by_definition, some_states, walked_at


def fault_by_definition(pair):
    n = len(pair[0])
    for r in range(n):
        for c in range(n):
            walked = walked_at(pair, r, c)
            if sum(walked.values()) != 2:
                return (r, c)
            for side, number in walked.items():
                road = road_of(n, r, c, side)
                if road is not None and number != (road + 1) % 2:
                    return (r, c)
    return None


class Sides(PairTests, FormCase):
    of_state = staticmethod(sides_of)
    to_state = staticmethod(state_of_sides)
    by_definition = staticmethod(sides_by_definition)
    fault = staticmethod(fault_by_definition)
    numbers = (1, 0)
    no_such_numbers = (-1, 2, -2, 10 ** 29, -(10 ** 29))

    def test_size_one(self):
        self.expect_state_and_back([[1]], ([[0, 0]], [[1], [1]]))

    def test_size_two(self):
        self.expect_state_and_back([[1, 0], [0, 1]], ([[0, 0, 1], [1, 0, 0]], [[1, 0], [1, 1], [0, 1]]))
        self.expect_state_and_back([[0, 1], [1, 0]], ([[0, 1, 1], [1, 1, 0]], [[1, 0], [0, 0], [0, 1]]))

    def test_two_walked_at_each_place_and_the_open_roads(self):
        for n in SIZES:
            for state in some_states(n):
                told = sides_of(state)
                self.assertIsNone(fault_by_definition(told))
                for r in range(n):
                    for c in range(n):
                        for side, number in walked_at(told, r, c).items():
                            road = road_of(n, r, c, side)
                            if road is not None:
                                self.assertEqual(number, 1 if road % 2 == 0 else 0)

    def test_roads_alone_at_fault(self):
        self.expect_refused(([[1, 1]], [[0], [0]]), (0, 0))
        self.expect_refused(([[1, 0]], [[1], [0]]), (0, 0))
        self.expect_refused(([[0, 1]], [[0], [1]]), (0, 0))
        across, down = sides_by_definition(diagonal(2))
        across[1][2], down[2][1] = 1, 0
        self.assertEqual(sum(walked_at((across, down), 1, 1).values()), 2)
        self.expect_refused((across, down), (1, 1))

    def test_none_walked_or_all(self):
        for n in SIZES:
            for number in (0, 1):
                across = [[number] * (n + 1) for r in range(n)]
                down = [[number] * n for i in range(n + 1)]
                self.expect_refused((across, down), (0, 0))

    def test_walked_and_other_sides_exchanged(self):
        for n in SIZES:
            across, down = sides_by_definition(diagonal(n))
            other = ([[1 - number for number in row] for row in across], [[1 - number for number in row] for row in down])
            self.expect_refused(other, (0, 0))
