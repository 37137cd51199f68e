import itertools

from loopgyre.errors import NoSize
from loopgyre.lattice import greatest, join, least, lies_beneath, meet
from loopgyre.signs import is_state
from samples import (
    SIZES, AskCase, all_states, diagonal, diamond, flipped, heights_by_definition, signs_between, some_states,
)


def flat(state):
    return sum(heights_by_definition(state), [])


def is_beneath(one, other):
    return all(height <= bound for height, bound in zip(flat(one), flat(other)))


def by_points(choose, one, other):
    rows = zip(heights_by_definition(one), heights_by_definition(other))
    return signs_between([[choose(pair) for pair in zip(row, beside)] for row, beside in rows])


class Order(AskCase):
    def test_pairs_of_all_sizes(self):
        for n in SIZES:
            for one, other in itertools.product(some_states(n), repeat=2):
                self.assertIs(lies_beneath(one, other), is_beneath(one, other))

    def test_all_pairs_of_small_sizes(self):
        for n in range(1, 5):
            for one, other in itertools.product(all_states(n), repeat=2):
                self.assertIs(lies_beneath(one, other), is_beneath(one, other))

    def test_a_state_and_itself(self):
        for n in SIZES:
            for state in some_states(n):
                self.assertIs(lies_beneath(state, state), True)
                self.assertIs(lies_beneath(state, [list(row) for row in state]), True)

    def test_size_two_and_three(self):
        low, high = [[1, 0], [0, 1]], [[0, 1], [1, 0]]
        self.assertEqual((lies_beneath(low, high), lies_beneath(high, low)), (True, False))
        self.assertEqual((lies_beneath(diagonal(3), diamond(3)), lies_beneath(diamond(3), diagonal(3))), (True, False))

    def test_two_of_which_neither_lies_beneath_the_other(self):
        one, other = [[0, 1, 0], [1, 0, 0], [0, 0, 1]], [[1, 0, 0], [0, 0, 1], [0, 1, 0]]
        self.assertEqual((lies_beneath(one, other), lies_beneath(other, one)), (False, False))

    def test_a_height_at_one_point_alone_counts(self):
        for n in range(2, 13):
            heights = heights_by_definition(diagonal(n))
            for i in range(1, n):
                raised = [list(row) for row in heights]
                raised[i][i] = 2
                self.assertIs(lies_beneath(diagonal(n), signs_between(raised)), True)
                self.assertIs(lies_beneath(signs_between(raised), diagonal(n)), False)

    def test_unlike_sizes(self):
        self.expect_unlike(lies_beneath)


class MeetAndJoin(AskCase):
    def expect_bounds(self, one, other):
        low, high = meet(one, other), join(one, other)
        self.assertEqual((is_state(low), is_state(high)), (True, True))
        self.assertEqual(repr(low), repr(by_points(min, one, other)))
        self.assertEqual(repr(high), repr(by_points(max, one, other)))
        self.assertEqual((meet(other, one), join(other, one)), (low, high))
        for state in (one, other):
            self.assertIs(lies_beneath(low, state), True)
            self.assertIs(lies_beneath(state, high), True)
        return low, high

    def test_pairs_of_all_sizes(self):
        for n in SIZES:
            for one, other in itertools.product(some_states(n)[:10], repeat=2):
                self.expect_bounds(one, other)

    def test_greatest_beneath_both_and_least_above_both(self):
        for n in range(1, 5):
            states = all_states(n)
            heights = {repr(state): flat(state) for state in states}
            for one, other in itertools.combinations_with_replacement(states, 2):
                low, high = self.expect_bounds(one, other)
                for state in states:
                    here = heights[repr(state)]
                    if all(h <= min(pair) for h, *pair in zip(here, heights[repr(one)], heights[repr(other)])):
                        self.assertIs(lies_beneath(state, low), True)
                    if all(h >= max(pair) for h, *pair in zip(here, heights[repr(one)], heights[repr(other)])):
                        self.assertIs(lies_beneath(high, state), True)

    def test_what_lies_beneath_both_lies_beneath_the_meet(self):
        for n in SIZES:
            states = some_states(n)[2:7]
            for one, other, third in itertools.permutations(states, 3):
                low, high = meet(one, other), join(one, other)
                under, over = meet(meet(one, third), other), join(join(one, third), other)
                self.assertTrue(is_beneath(under, one) and is_beneath(under, other))
                self.assertTrue(is_beneath(one, over) and is_beneath(other, over))
                self.assertIs(lies_beneath(under, low), True)
                self.assertIs(lies_beneath(high, over), True)

    def test_a_state_and_itself(self):
        for n in SIZES:
            for state in some_states(n):
                self.assertEqual((meet(state, state), join(state, state)), (state, state))

    def test_size_three(self):
        one, other = [[0, 1, 0], [1, 0, 0], [0, 0, 1]], [[1, 0, 0], [0, 0, 1], [0, 1, 0]]
        self.assertEqual(meet(one, other), [[1, 0, 0], [0, 1, 0], [0, 0, 1]])
        self.assertEqual(join(one, other), [[0, 1, 0], [1, -1, 1], [0, 1, 0]])

    def test_unlike_sizes(self):
        self.expect_unlike(meet)
        self.expect_unlike(join)

    def test_states_a_bit_beyond_the_bounds(self):
        low, high = diagonal(13), flipped(diagonal(13))
        self.assertEqual((meet(low, high), join(low, high)), (low, high))
        self.assertEqual((lies_beneath(low, high), lies_beneath(high, low)), (True, False))


class LeastAndGreatest(AskCase):
    def test_heights_told(self):
        for n in SIZES:
            points = range(n + 1)
            self.assertEqual(heights_by_definition(least(n)), [[abs(i - j) for j in points] for i in points])
            told = [[min(i + j, 2 * n - i - j) for j in points] for i in points]
            self.assertEqual(heights_by_definition(greatest(n)), told)

    def test_the_two_diagonals(self):
        for n in SIZES:
            self.assertEqual(repr(least(n)), repr(diagonal(n)))
            self.assertEqual(repr(greatest(n)), repr(flipped(diagonal(n))))

    def test_beneath_and_above_all(self):
        for n in SIZES:
            for state in some_states(n):
                self.assertIs(lies_beneath(least(n), state), True)
                self.assertIs(lies_beneath(state, greatest(n)), True)
                self.assertEqual(meet(least(n), state), least(n))
                self.assertEqual(join(state, greatest(n)), greatest(n))

    def test_no_size(self):
        self.expect_no_size(least, 12)
        self.expect_no_size(greatest, 12)


class Keeping(AskCase):
    def test_lists_are_the_askers_own(self):
        for n in SIZES:
            for one, other in itertools.product(some_states(n)[:5], repeat=2):
                for ask in (meet, join, lies_beneath):
                    self.expect_own(ask, [list(row) for row in one], [list(row) for row in other])

    def test_one_state_handed_in_twice(self):
        for n in SIZES:
            for ask in (meet, join, lies_beneath):
                state = diamond(n)
                told = ask(state, state)
                self.assertIsNot(told, state)
                if ask is not lies_beneath:
                    for row in told:
                        row.append("spoilt")
                self.assertEqual(state, diamond(n))

    def test_the_least_and_the_greatest_are_the_askers_own(self):
        for n in SIZES:
            self.expect_own(least, n)
            self.expect_own(greatest, n)

    def test_a_refusal_changes_no_later_answer(self):
        for ask, due in ((least, diagonal(2)), (greatest, flipped(diagonal(2)))):
            self.expect_refusal(NoSize, ask, 0)
            self.assertEqual(ask(2), due)


class Interface(AskCase):
    def test_arguments(self):
        for ask in (lies_beneath, meet, join):
            self.expect_arguments(ask, "(one, other)")
        for ask in (least, greatest):
            self.expect_arguments(ask, "(n)")
