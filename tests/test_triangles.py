import copy
import itertools
import random

from loopgyre.triangles import state_of_triangle, triangle_of
from samples import NO_LISTS, NO_NUMBERS, SIZES, FormCase, all_states, deep_list, diagonal, flipped, some_states


def triangle_by_definition(state):
    n = len(state)
    return [[c for c in range(n) if sum(row[c] for row in state[:k]) == 1] for k in range(1, n + 1)]


def fault_by_definition(triangle):
    n = len(triangle)
    for k in range(1, n + 1):
        here = triangle[k - 1]
        for m in range(k):
            if m > 0 and not here[m] > here[m - 1]:
                return (k, m)
            if k < n and not triangle[k][m] <= here[m] <= triangle[k][m + 1]:
                return (k, m)
    return None


class TriangleCase(FormCase):
    of_state = staticmethod(triangle_of)
    to_state = staticmethod(state_of_triangle)

    def expect_as_told(self, triangle):
        spot = fault_by_definition(triangle)
        if spot is None:
            self.assertEqual(triangle_of(state_of_triangle(triangle)), triangle)
        else:
            self.expect_refused(triangle, spot)
        return spot


class States(TriangleCase):
    def test_size_one(self):
        self.expect_state_and_back([[1]], [[0]])

    def test_size_two(self):
        self.expect_state_and_back([[1, 0], [0, 1]], [[0], [0, 1]])
        self.expect_state_and_back([[0, 1], [1, 0]], [[1], [0, 1]])

    def test_size_three(self):
        self.expect_state_and_back([[0, 1, 0], [1, -1, 1], [0, 1, 0]], [[1], [0, 2], [0, 1, 2]])
        self.expect_state_and_back([[0, 1, 0], [0, 0, 1], [1, 0, 0]], [[1], [1, 2], [0, 1, 2]])

    def test_the_two_diagonals_of_all_sizes(self):
        for n in SIZES:
            self.expect_state_and_back(diagonal(n), [list(range(k)) for k in range(1, n + 1)])
            self.expect_state_and_back(flipped(diagonal(n)), [list(range(n - k, n)) for k in range(1, n + 1)])

    def test_states_of_all_sizes(self):
        for n in SIZES:
            for state in some_states(n):
                self.expect_state_and_back(state, triangle_by_definition(state))

    def test_all_states_of_small_sizes(self):
        for n in range(1, 5):
            for state in all_states(n):
                self.expect_state_and_back(state, triangle_by_definition(state))

    def test_rising_and_one_between_each_two(self):
        for n in SIZES:
            for state in some_states(n):
                told = triangle_of(state)
                self.assertEqual([len(row) for row in told], list(range(1, n + 1)))
                self.assertEqual(told[-1], list(range(n)))
                for row in told:
                    self.assertEqual(row, sorted(set(row)))
                for row, behind in zip(told, told[1:]):
                    for number, left, right in zip(row, behind, behind[1:]):
                        self.assertTrue(left <= number <= right)


class Faults(TriangleCase):
    def test_not_above_the_one_before(self):
        self.expect_refused([[0], [0, 0]], (2, 1))
        self.expect_refused([[1], [1, 1]], (2, 1))
        self.expect_refused([[1], [1, 1], [0, 1, 2]], (2, 1))
        self.expect_refused([[0], [0, 1], [0, 1, 1]], (3, 2))

    def test_less_than_the_number_behind(self):
        self.expect_refused([[0], [1, 2], [0, 1, 2]], (1, 0))
        self.expect_refused([[1], [1, 0]], (1, 0))
        self.expect_refused([[0], [0, 2], [0, 1, 2], [0, 1, 2, 3]][:2] + [[0, 3, 3], [0, 1, 2, 3]], (2, 1))

    def test_more_than_the_next_number_behind(self):
        self.expect_refused([[2], [0, 1], [0, 1, 2]], (1, 0))
        self.expect_refused([[1], [0, 0]], (1, 0))
        self.expect_refused([[2], [2, 3], [0, 1, 3], [0, 1, 2, 3]], (2, 0))

    def test_as_low_and_as_high_as_can_be_is_no_fault(self):
        self.expect_state_and_back([[1, 0, 0], [0, 0, 1], [0, 1, 0]], [[0], [0, 2], [0, 1, 2]])
        self.expect_state_and_back([[0, 0, 1], [1, 0, 0], [0, 1, 0]], [[2], [0, 2], [0, 1, 2]])

    def test_the_last_list(self):
        self.expect_refused([[1], [0, 2], [0, 2, 2]], (3, 2))
        self.expect_refused([[0], [0, 0], [0, 0, 0]], (2, 1))
        self.expect_refused([[0], [0, 1], [0, 2, 1]], (2, 1))
        self.expect_refused([[2], [1, 2], [1, 1, 2]], (3, 1))

    def test_the_first_of_several(self):
        self.expect_refused([[2], [1, 1], [2, 1, 0]], (1, 0))
        self.expect_refused([[1], [1, 1], [2, 1, 0]], (2, 0))

    def test_all_triangles_of_small_sizes(self):
        found = {n: 0 for n in (1, 2, 3)}
        for n in found:
            for columns in itertools.product(range(n), repeat=n * (n + 1) // 2):
                triangle = [list(columns[k * (k - 1) // 2:k * (k + 1) // 2]) for k in range(1, n + 1)]
                found[n] += self.expect_as_told(triangle) is None
        self.assertEqual(found, {1: 1, 2: 2, 3: 7})

    def test_states_with_numbers_changed(self):
        for n in SIZES:
            chance = random.Random(n)
            for state in some_states(n):
                for turn in range(40):
                    triangle = triangle_by_definition(state)
                    for change in range(chance.randint(1, 3)):
                        row = chance.choice(triangle)
                        row[chance.randrange(len(row))] = chance.randrange(n)
                    self.expect_as_told(triangle)

    def test_each_number_of_the_last_list_changed(self):
        for n in range(2, 13):
            for m in range(n):
                triangle = triangle_by_definition(diagonal(n))
                triangle[-1][m] = n - 1 if m < n - 1 else 0
                self.assertIsNotNone(self.expect_as_told(triangle))


class Forms(TriangleCase):
    def test_no_list(self):
        for thing in NO_LISTS:
            self.expect_no_form(thing)
        for n in SIZES:
            self.expect_no_form(tuple(triangle_by_definition(diagonal(n))))

    def test_no_list_at_all_and_thirteen_lists(self):
        self.expect_no_form([])
        for n in (13, 14, 40):
            self.expect_no_form(triangle_by_definition(diagonal(n)))

    def test_twelve_lists_are_taken(self):
        self.expect_state_and_back(diagonal(12), triangle_by_definition(diagonal(12)))

    def test_lists_that_are_none(self):
        for n in SIZES:
            for k in range(n):
                for other in NO_LISTS:
                    triangle = triangle_by_definition(diagonal(n))
                    triangle[k] = other
                    self.expect_no_form(triangle)
                triangle = triangle_by_definition(diagonal(n))
                triangle[k] = tuple(triangle[k])
                self.expect_no_form(triangle)

    def test_lists_too_short_or_too_long(self):
        for n in SIZES:
            triangle = triangle_by_definition(diagonal(n))
            for k in range(n):
                short, long = copy.deepcopy(triangle), copy.deepcopy(triangle)
                short[k].pop()
                long[k].append(n - 1)
                self.expect_no_form(short)
                self.expect_no_form(long)
            self.expect_no_form(triangle[::-1] if n > 1 else [[]])
            self.expect_no_form(triangle[1:])
            self.expect_no_form(triangle + [list(range(n))])

    def test_too_few_lists_with_too_great_numbers(self):
        for n in range(2, 13):
            self.expect_no_form(triangle_by_definition(flipped(diagonal(n)))[:-1])

    def test_numbers_that_are_none_or_beyond_the_columns(self):
        for n in SIZES:
            for other in NO_NUMBERS + (-1, n, n + 1, 10 ** 29, -(10 ** 29)):
                for k, m in ((0, 0), (n - 1, 0), (n - 1, n - 1)):
                    triangle = triangle_by_definition(diagonal(n))
                    triangle[k][m] = other
                    self.expect_no_form(triangle)
        self.expect_no_form([[False]])
        self.expect_no_form([[True], [False, True]])

    def test_form_goes_ahead_of_an_earlier_fault(self):
        self.expect_no_form([[2], [0, 1], [0, 1, 3]])
        self.expect_no_form([[2], [0, 1], [0, 1, True]])
        self.expect_no_form([[2], [0, 1], [0, 1]])
        self.expect_no_form([[2], [0, 1], (0, 1, 2)])

    def test_deep_and_long_things(self):
        deep = deep_list(9000)
        for thing in (deep, [[0], deep], [[deep]], [[0], [0, deep]], [0] * 9999, [[0] * 9998], [[]] * 9999):
            with self.assertRaises(ValueError) as caught:
                state_of_triangle(thing)
            self.assertIsNone(caught.exception.spot)


class Keeping(TriangleCase):
    def test_lists_are_the_askers_own(self):
        for n in SIZES:
            for state in some_states(n)[:6]:
                self.expect_own_lists(state)
