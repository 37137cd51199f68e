import copy
import itertools
import random

from loopgyre.heights import heights_of, state_of_heights
from samples import (
    NO_LISTS, NO_NUMBERS, SIZES, FormCase, all_states, deep_list, diagonal, flipped, heights_by_definition, some_states,
)


def rim_by_definition(n):
    told = {}
    for t in range(n + 1):
        told[(0, t)] = t
        told[(t, 0)] = t
        told[(n, t)] = n - t
        told[(t, n)] = n - t
    return told


def fault_by_definition(table):
    n = len(table) - 1
    rim = rim_by_definition(n)
    for i in range(n + 1):
        for j in range(n + 1):
            here = table[i][j]
            if rim.get((i, j), here) != here:
                return (i, j)
            if i > 0 and here - table[i - 1][j] not in (1, -1):
                return (i, j)
            if j > 0 and here - table[i][j - 1] not in (1, -1):
                return (i, j)
    return None


class HeightCase(FormCase):
    of_state = staticmethod(heights_of)
    to_state = staticmethod(state_of_heights)

    def changed(self, n, i, j, number):
        table = heights_by_definition(diagonal(n))
        table[i][j] = number
        return table


class States(HeightCase):
    def test_size_one(self):
        self.expect_state_and_back([[1]], [[0, 1], [1, 0]])

    def test_size_two(self):
        self.expect_state_and_back([[1, 0], [0, 1]], [[0, 1, 2], [1, 0, 1], [2, 1, 0]])
        self.expect_state_and_back([[0, 1], [1, 0]], [[0, 1, 2], [1, 2, 1], [2, 1, 0]])

    def test_size_three_with_a_minus_one(self):
        state = [[0, 1, 0], [1, -1, 1], [0, 1, 0]]
        self.expect_state_and_back(state, [[0, 1, 2, 3], [1, 2, 1, 2], [2, 1, 2, 1], [3, 2, 1, 0]])

    def test_not_the_same_across_as_down(self):
        state = [[0, 1, 0], [0, 0, 1], [1, 0, 0]]
        self.expect_state_and_back(state, [[0, 1, 2, 3], [1, 2, 1, 2], [2, 3, 2, 1], [3, 2, 1, 0]])

    def test_the_two_diagonals_of_all_sizes(self):
        for n in SIZES:
            points = range(n + 1)
            low = [[abs(i - j) for j in points] for i in points]
            high = [[min(i + j, 2 * n - i - j) for j in points] for i in points]
            self.expect_state_and_back(diagonal(n), low)
            self.expect_state_and_back(flipped(diagonal(n)), high)

    def test_states_of_all_sizes(self):
        for n in SIZES:
            for state in some_states(n):
                self.expect_state_and_back(state, heights_by_definition(state))

    def test_all_states_of_small_sizes(self):
        for n, number in ((1, 1), (2, 2), (3, 7), (4, 42)):
            states = all_states(n)
            self.assertEqual(len(states), number)
            for state in states:
                self.expect_state_and_back(state, heights_by_definition(state))

    def test_rim_and_neighbours(self):
        for n in SIZES:
            for state in some_states(n):
                told = heights_of(state)
                self.assertEqual({at: told[at[0]][at[1]] for at in rim_by_definition(n)}, rim_by_definition(n))
                self.assertIsNone(fault_by_definition(told))


class Faults(HeightCase):
    def test_a_rim_point_changed(self):
        for n in SIZES:
            for (i, j), height in rim_by_definition(n).items():
                for number in (height + 1, height - 1, height + 2, height - 2, -height - 1, 10 ** 29, -(10 ** 29)):
                    table = self.changed(n, i, j, number)
                    self.assertEqual(fault_by_definition(table), (i, j))
                    self.expect_refused(table, (i, j))

    def test_a_rim_that_differs_by_just_one_from_its_neighbours(self):
        table = [[0, 1, 2, 3], [1, 0, 1, 2], [2, 1, 0, -1], [3, 2, 1, 0]]
        self.expect_refused(table, (2, 3))
        table = [[0, 1, 2, 3], [1, 0, 1, 2], [2, 1, 0, 1], [3, 2, -1, 0]]
        self.expect_refused(table, (3, 2))
        self.expect_refused([[0, 1], [-1, 0]], (1, 0))
        self.expect_refused([[0, -1], [1, 0]], (0, 1))
        self.expect_refused([[0, 1], [1, 2]], (1, 1))
        self.expect_refused([[2, 1], [1, 0]], (0, 0))

    def test_rims_that_are_all_one_more(self):
        for n in SIZES:
            raised = [[height + 1 for height in row] for row in heights_by_definition(diagonal(n))]
            self.expect_refused(raised, (0, 0))

    def test_a_neighbour_above(self):
        self.expect_refused([[0, 1, 2], [1, 1, 1], [2, 1, 0]], (1, 1))
        self.expect_refused([[0, 1, 2], [1, 4, 1], [2, 1, 0]], (1, 1))
        self.expect_refused([[0, 1, 2, 3], [1, 2, 1, 2], [2, 1, 4, 1], [3, 2, 1, 0]], (2, 2))
        self.expect_refused([[0, 1, 2, 3], [1, 0, 1, 2], [2, 3, 2, 1], [3, 2, 1, 0]], (2, 1))

    def test_a_neighbour_left(self):
        self.expect_refused([[0, 1, 2, 3], [1, 0, 3, 2], [2, 1, 2, 1], [3, 2, 1, 0]], (1, 2))
        self.expect_refused([[0, 1, 2, 3], [1, 0, 1, 2], [2, -1, 0, 1], [3, 2, 1, 0]], (2, 1))

    def test_a_rim_to_the_right_that_does_not_fit_within(self):
        self.expect_refused([[0, 1, 2, 3], [1, 2, 3, 2], [2, 3, 4, 1], [3, 2, 1, 0]], (2, 3))

    def test_the_first_of_several(self):
        self.expect_refused([[0, 1, 2], [1, 1, 5], [9, 9, 9]], (1, 1))
        self.expect_refused([[0, 0, 0], [0, 0, 0], [0, 0, 0]], (0, 1))
        self.expect_refused([[5, 5], [5, 5]], (0, 0))

    def test_all_tables_of_small_numbers(self):
        found = 0
        for n, numbers in ((1, range(-2, 4)), (2, range(3))):
            for signs in itertools.product(numbers, repeat=(n + 1) * (n + 1)):
                table = [list(signs[i * (n + 1):(i + 1) * (n + 1)]) for i in range(n + 1)]
                spot = fault_by_definition(table)
                if spot is None:
                    found += 1
                    self.assertEqual(heights_of(state_of_heights(table)), table)
                else:
                    self.expect_refused(table, spot)
        self.assertEqual(found, 3)

    def test_states_of_all_sizes_with_points_changed(self):
        for n in SIZES:
            chance = random.Random(n)
            for state in some_states(n):
                for turn in range(40):
                    table = heights_by_definition(state)
                    for change in range(chance.randint(1, 3)):
                        i, j = chance.randint(0, n), chance.randint(0, n)
                        table[i][j] += chance.choice((1, -1, 2, -2, 3, 10 ** 29 - 13, -(10 ** 29) + 13))
                    spot = fault_by_definition(table)
                    if spot is None:
                        self.assertEqual(heights_of(state_of_heights(table)), table)
                    else:
                        self.expect_refused(table, spot)

    def test_huge_numbers(self):
        huge = 10 ** 29
        for n in range(2, 13):
            for number in (huge, -huge, 10 ** 30 - 1, 1 - 10 ** 30):
                for i, j in ((1, 1), (n - 1, n - 1), (1, n - 1), (n - 1, 1)):
                    self.expect_refused(self.changed(n, i, j, number), (i, j))
            points = range(n + 1)
            self.expect_refused([[huge + abs(i - j) for j in points] for i in points], (0, 0))


class Forms(HeightCase):
    def test_no_list(self):
        for thing in NO_LISTS:
            self.expect_no_form(thing)
        for n in SIZES:
            self.expect_no_form(tuple(heights_by_definition(diagonal(n))))

    def test_no_row_and_one_row_alone(self):
        self.expect_no_form([])
        for row in ([], [0], [0, 1], [0] * 13):
            self.expect_no_form([row])

    def test_fourteen_rows_and_more(self):
        for n in (13, 14, 40):
            self.expect_no_form(heights_by_definition(diagonal(n)))

    def test_thirteen_rows_are_taken(self):
        self.expect_state_and_back(diagonal(12), heights_by_definition(diagonal(12)))

    def test_rows_that_are_no_lists(self):
        for n in SIZES:
            for other in NO_LISTS:
                for i in (0, n):
                    table = heights_by_definition(diagonal(n))
                    table[i] = other
                    self.expect_no_form(table)
            for i in range(n + 1):
                table = heights_by_definition(diagonal(n))
                table[i] = tuple(table[i])
                self.expect_no_form(table)

    def test_rows_too_short_or_too_long(self):
        for n in SIZES:
            table = heights_by_definition(diagonal(n))
            for i in range(n + 1):
                short, long = copy.deepcopy(table), copy.deepcopy(table)
                short[i].pop()
                long[i].append(0)
                self.expect_no_form(short)
                self.expect_no_form(long)
            self.expect_no_form(table + [[0] * (n + 1)])
            self.expect_no_form(table[:-1])
            self.expect_no_form([[] for row in table])

    def test_numbers_that_are_none(self):
        for n in SIZES:
            for other in NO_NUMBERS:
                for i, j in ((0, 0), (0, n), (n, 0), (n, n), (n // 2, n // 2)):
                    self.expect_no_form(self.changed(n, i, j, other))
        self.expect_no_form([[False, True], [True, False]])

    def test_form_goes_ahead_of_an_earlier_fault(self):
        self.expect_no_form([[7, 7], [7, None]])
        self.expect_no_form([[7, 7], [7, True]])
        self.expect_no_form([[7, 7], [7]])
        self.expect_no_form([[7, 7], (1, 0)])

    def test_deep_and_long_things(self):
        deep = deep_list(9000)
        for thing in (deep, [deep, deep], [[deep, 1], [1, 0]], [0] * 9999, [[0] * 4999, [0] * 4999], [[]] * 9999):
            with self.assertRaises(ValueError) as caught:
                state_of_heights(thing)
            self.assertIsNone(caught.exception.spot)


class Keeping(HeightCase):
    def test_lists_are_the_askers_own(self):
        for n in SIZES:
            for state in some_states(n)[:6]:
                self.expect_own_lists(state)

    def test_one_list_as_several_rows(self):
        row = [0, 1]
        self.expect_refused([row, row], (1, 0))
        self.assertEqual(row, [0, 1])
