import itertools
import random

from loopgyre.errors import NoSquare, NoTurn
from loopgyre.signs import is_state
from loopgyre.turns import apart, can_turn, turned, turns_between
from samples import (
    SIZES, AskCase, all_states, diagonal, diamond, fewest_turns, flipped, heights_by_definition, sides_by_definition,
    signs_between, small_squares, some_states, turned_by_definition,
)

HUGE = 10 ** 29


def four_sides(pair, i, j):
    """The walked numbers of the sides of a small square, as they go round it."""
    across, down = pair
    return (across[i - 1][j], down[i][j], across[i][j], down[i][j - 1])


def other_sides(pair, i, j):
    across, down = ([list(row) for row in part] for part in pair)
    for part, r, c in ((across, i - 1, j), (down, i, j), (across, i, j), (down, i, j - 1)):
        part[r][c] = None
    return (across, down)


def none_of_the_floor(n):
    """Points at the rim and beyond it, near and far."""
    near = [point for point in itertools.product(range(-2, n + 3), repeat=2) if point not in small_squares(n)]
    far = (-HUGE, -n, -1, 0, n, 2 * n, HUGE)
    return near + [(i, 1) for i in far] + [(1, j) for j in far] + [(i, j) for i in far for j in far]


def apart_by_definition(one, other):
    pairs = zip(sum(heights_by_definition(one), []), sum(heights_by_definition(other), []))
    total = sum(abs(height - beside) for height, beside in pairs)
    assert total % 2 == 0
    return total // 2


class Turns(AskCase):
    def expect_as_told(self, state):
        n = len(state)
        heights = heights_by_definition(state)
        for i, j in small_squares(n):
            due = turned_by_definition(heights, i, j)
            self.assertIs(can_turn(state, i, j), due is not None)
            if due is None:
                self.expect_refusal(NoTurn, turned, state, i, j)
            else:
                told = turned(state, i, j)
                self.assertIs(is_state(told), True)
                self.assertEqual(heights_by_definition(told), due)
                self.assertEqual(told, signs_between(due))
                self.assertEqual(turned(told, i, j), state)
        self.assertEqual(heights_by_definition(state), heights)

    def test_states_of_all_sizes(self):
        for n in SIZES:
            for state in some_states(n)[:14]:
                self.expect_as_told(state)

    def test_all_states_of_small_sizes(self):
        for n in range(1, 5):
            for state in all_states(n):
                self.expect_as_told(state)

    def test_size_two(self):
        low, high = [[1, 0], [0, 1]], [[0, 1], [1, 0]]
        self.assertIs(can_turn(low, 1, 1), True)
        self.assertEqual(turned(low, 1, 1), high)
        self.assertIs(can_turn(high, 1, 1), True)
        self.assertEqual(turned(high, 1, 1), low)

    def test_size_three(self):
        state = [[0, 1, 0], [1, -1, 1], [0, 1, 0]]
        self.assertEqual([can_turn(state, i, j) for i, j in small_squares(3)], [True, True, True, True])
        self.assertEqual(turned(state, 1, 1), [[1, 0, 0], [0, 0, 1], [0, 1, 0]])
        self.assertEqual(turned(state, 1, 2), [[0, 0, 1], [1, 0, 0], [0, 1, 0]])
        self.assertEqual(turned(state, 2, 1), [[0, 1, 0], [0, 0, 1], [1, 0, 0]])
        self.assertEqual(turned(state, 2, 2), [[0, 1, 0], [1, 0, 0], [0, 0, 1]])
        state = [[1, 0, 0], [0, 1, 0], [0, 0, 1]]
        self.assertEqual([can_turn(state, i, j) for i, j in small_squares(3)], [True, False, False, True])

    def test_the_least_and_the_greatest_turn_along_a_diagonal_alone(self):
        for n in SIZES:
            for i, j in small_squares(n):
                self.assertIs(can_turn(diagonal(n), i, j), i == j)
                self.assertIs(can_turn(flipped(diagonal(n)), i, j), i + j == n)

    def test_sides_of_the_square(self):
        for n in SIZES:
            for state in some_states(n)[:10]:
                pair = sides_by_definition(state)
                for i, j in small_squares(n):
                    four = four_sides(pair, i, j)
                    opposite = four in ((1, 0, 1, 0), (0, 1, 0, 1))
                    self.assertIs(can_turn(state, i, j), opposite)
                    if opposite:
                        behind = sides_by_definition(turned(state, i, j))
                        self.assertEqual(four_sides(behind, i, j), tuple(1 - number for number in four))
                        self.assertEqual(other_sides(behind, i, j), other_sides(pair, i, j))

    def test_no_square(self):
        for n in SIZES:
            for state in (diagonal(n), flipped(diagonal(n)), diamond(n), some_states(n)[-1]):
                for i, j in none_of_the_floor(n):
                    self.expect_refusal(NoSquare, can_turn, state, i, j)
                    self.expect_refusal(NoSquare, turned, state, i, j)

    def test_no_square_where_nothing_can_be_turned(self):
        for i, j in itertools.product((-HUGE, -2, -1, 0, 1, 2, 3, HUGE), repeat=2):
            self.expect_refusal(NoSquare, can_turn, [[1]], i, j)
            self.expect_refusal(NoSquare, turned, [[1]], i, j)

    def test_no_turn(self):
        self.expect_refusal(NoTurn, turned, diagonal(3), 1, 2)
        self.expect_refusal(NoTurn, turned, diagonal(3), 2, 1)
        for n in range(3, 13):
            for i, j in small_squares(n):
                if i != j:
                    self.expect_refusal(NoTurn, turned, diagonal(n), i, j)
                if i + j != n:
                    self.expect_refusal(NoTurn, turned, flipped(diagonal(n)), i, j)

    def test_a_state_a_bit_beyond_the_bounds(self):
        state = diagonal(13)
        self.assertIs(can_turn(state, 12, 12), True)
        self.assertEqual(turned(turned(state, 12, 12), 12, 12), state)
        self.expect_refusal(NoTurn, turned, state, 12, 11)
        self.expect_refusal(NoSquare, turned, state, 13, 12)
        self.assertEqual(len(turns_between(state, flipped(state))), apart(state, flipped(state)))


class Between(AskCase):
    def expect_led(self, one, other):
        told = turns_between(one, other)
        far = apart_by_definition(one, other)
        self.assertIs(type(told), list)
        self.assertEqual(len(told), far)
        self.assertEqual((apart(one, other), apart(other, one)), (far, far))
        self.assertEqual((type(apart(one, other)), type(apart(other, one))), (int, int))
        heights = heights_by_definition(one)
        for point in told:
            self.assertIs(type(point), tuple)
            self.assertEqual([type(number) for number in point], [int, int])
            self.assertIn(point, small_squares(len(one)))
            heights = turned_by_definition(heights, *point)
            self.assertIsNotNone(heights)
        self.assertEqual(signs_between(heights), other)
        return told

    def test_pairs_of_all_sizes(self):
        for n in SIZES:
            states = some_states(n)[:10]
            for one, other in itertools.product(states, repeat=2):
                self.expect_led(one, other)

    def test_all_pairs_of_small_sizes(self):
        for n in range(1, 5):
            for one, other in itertools.product(all_states(n), repeat=2):
                self.expect_led(one, other)

    def test_turns_lead_by_the_program_too(self):
        for n in SIZES:
            states = some_states(n)
            for one, other in zip(states, states[1:]):
                carried = one
                for i, j in turns_between(one, other):
                    self.assertIs(can_turn(carried, i, j), True)
                    carried = turned(carried, i, j)
                self.assertEqual(carried, other)

    def test_no_fewer_turns_lead_there(self):
        for n in range(1, 5):
            states = all_states(n)
            for one in states:
                found = fewest_turns(one)
                self.assertEqual(len(found), len(states))
                for other in states:
                    self.assertEqual(found[repr(heights_by_definition(other))], apart(one, other))

    def test_points_that_rise_and_points_that_fall(self):
        low, high = [[0, 1, 0], [1, 0, 0], [0, 0, 1]], [[1, 0, 0], [0, 0, 1], [0, 1, 0]]
        self.assertEqual(sorted(self.expect_led(low, high)), [(1, 1), (2, 2)])
        mixed = 0
        for n in range(4, 13):
            states = some_states(n)[4:12]
            for one, other in itertools.permutations(states, 2):
                pairs = list(zip(sum(heights_by_definition(one), []), sum(heights_by_definition(other), [])))
                mixed += any(a < b for a, b in pairs) and any(a > b for a, b in pairs)
        self.assertGreater(mixed, 200)

    def test_a_state_and_itself(self):
        for n in SIZES:
            for state in some_states(n):
                self.assertEqual(apart(state, state), 0)
                self.assertEqual(turns_between(state, [list(row) for row in state]), [])

    def test_numbers_told(self):
        self.assertEqual(apart([[1, 0], [0, 1]], [[0, 1], [1, 0]]), 1)
        self.assertEqual(turns_between([[1, 0], [0, 1]], [[0, 1], [1, 0]]), [(1, 1)])
        self.assertEqual(apart(diagonal(3), diamond(3)), 2)
        self.assertEqual(sorted(turns_between(diamond(3), diagonal(3))), [(1, 1), (2, 2)])
        self.assertEqual(apart(diagonal(3), flipped(diagonal(3))), 4)
        for n in SIZES:
            self.assertEqual(apart(diagonal(n), flipped(diagonal(n))), n * (n * n - 1) // 6)

    def test_one_turn_leads_one_further(self):
        chance = random.Random(7)
        for n in range(2, 13):
            for state in some_states(n)[:8]:
                i, j = chance.choice([point for point in small_squares(n) if can_turn(state, *point)])
                self.assertEqual(apart(state, turned(state, i, j)), 1)
                self.assertEqual(turns_between(state, turned(state, i, j)), [(i, j)])

    def test_unlike_sizes(self):
        self.expect_unlike(apart)
        self.expect_unlike(turns_between)


class Keeping(AskCase):
    def test_lists_are_the_askers_own(self):
        for n in range(2, 13):
            for state in some_states(n)[:6]:
                for i, j in [point for point in small_squares(n) if can_turn(state, *point)][:3]:
                    self.expect_own(turned, [list(row) for row in state], i, j)
                    self.expect_own(can_turn, [list(row) for row in state], i, j)

    def test_what_two_states_are_told_by_is_the_askers_own(self):
        for n in SIZES:
            for one, other in itertools.product(some_states(n)[2:5], repeat=2):
                self.expect_own(turns_between, [list(row) for row in one], [list(row) for row in other])
                self.expect_own(apart, [list(row) for row in one], [list(row) for row in other])

    def test_a_refusal_changes_no_later_answer(self):
        state = diagonal(3)
        for i, j, refusal in ((0, 1, NoSquare), (3, 3, NoSquare), (1, 2, NoTurn)):
            self.expect_refusal(refusal, turned, state, i, j)
            self.assertEqual(turned(state, 1, 1), [[0, 1, 0], [1, 0, 0], [0, 0, 1]])


class Interface(AskCase):
    def test_arguments(self):
        self.expect_arguments(can_turn, "(state, i, j)")
        self.expect_arguments(turned, "(state, i, j)")
        self.expect_arguments(apart, "(one, other)")
        self.expect_arguments(turns_between, "(one, other)")
