from loopgyre.arrows import arrows_of, state_of_arrows
from samples import FormCase, PairTests, diagonal


def arrows_by_definition(state):
    n = len(state)
    across = [[{0: 1, 1: -1}[sum(row[:j])] for j in range(n + 1)] for row in state]
    down = [[{0: -1, 1: 1}[sum(row[c] for row in state[:i])] for c in range(n)] for i in range(n + 1)]
    return (across, down)


def comes_in(across, down, r, c):
    from_left, from_right = across[r][c] == 1, across[r][c + 1] == -1
    from_above, from_below = down[r][c] == 1, down[r + 1][c] == -1
    return [from_left, from_right, from_above, from_below]


def fault_by_definition(pair):
    across, down = pair
    n = len(across)
    for r in range(n):
        for c in range(n):
            from_left, from_right, from_above, from_below = comes_in(across, down, r, c)
            if from_left + from_right + from_above + from_below != 2:
                return (r, c)
            if c == 0 and not from_left or c == n - 1 and not from_right:
                return (r, c)
            if r == 0 and from_above or r == n - 1 and from_below:
                return (r, c)
    return None


class Arrows(PairTests, FormCase):
    of_state = staticmethod(arrows_of)
    to_state = staticmethod(state_of_arrows)
    by_definition = staticmethod(arrows_by_definition)
    fault = staticmethod(fault_by_definition)
    numbers = (1, -1)
    no_such_numbers = (0, 2, -2, 10 ** 29, -(10 ** 29))

    def test_size_one(self):
        self.expect_state_and_back([[1]], ([[1, -1]], [[-1], [1]]))

    def test_size_two(self):
        self.expect_state_and_back([[1, 0], [0, 1]], ([[1, -1, -1], [1, 1, -1]], [[-1, -1], [1, -1], [1, 1]]))
        self.expect_state_and_back([[0, 1], [1, 0]], ([[1, 1, -1], [1, -1, -1]], [[-1, -1], [-1, 1], [1, 1]]))

    def test_size_three_with_a_minus_one(self):
        across = [[1, 1, -1, -1], [1, -1, 1, -1], [1, 1, -1, -1]]
        down = [[-1, -1, -1], [-1, 1, -1], [1, -1, 1], [1, 1, 1]]
        self.expect_state_and_back([[0, 1, 0], [1, -1, 1], [0, 1, 0]], (across, down))

    def test_a_road_that_has_the_other_arrow(self):
        self.expect_refused(([[-1, 1]], [[1], [-1]]), (0, 0))
        across, down = arrows_by_definition(diagonal(2))
        across[0][0], down[1][0] = -1, -1
        self.assertEqual(sum(comes_in(across, down, 0, 0)), 2)
        self.expect_refused((across, down), (0, 0))

    def test_roads_alone_at_fault(self):
        self.expect_refused(([[1, 1]], [[-1], [-1]]), (0, 0))
        self.expect_refused(([[-1, -1]], [[1], [1]]), (0, 0))
        self.expect_refused(([[1, 1]], [[1], [1]]), (0, 0))
        self.expect_refused(([[-1, -1]], [[-1], [-1]]), (0, 0))
        across, down = arrows_by_definition(diagonal(2))
        across[1][2], down[2][1] = 1, -1
        self.assertEqual(sum(comes_in(across, down, 1, 1)), 2)
        self.expect_refused((across, down), (1, 1))

    def test_all_arrows_turned_about(self):
        for n in range(1, 13):
            across, down = arrows_by_definition(diagonal(n))
            turned = ([[-arrow for arrow in row] for row in across], [[-arrow for arrow in row] for row in down])
            self.expect_refused(turned, (0, 0))
