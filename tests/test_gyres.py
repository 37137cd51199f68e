from loopgyre.gyres import crossed, great_turn, great_turn_back, half_turn, mirrored
from loopgyre.links import links, links_beside, rings, rings_beside
from loopgyre.signs import is_state
from samples import (
    SIZES, AskCase, all_states, diagonal, diamond, flipped, heights_by_definition, round_point, signs_between,
    small_squares, some_states, turned_by_definition,
)

SHADES = ("light", "dark")
STATES = [state for n in SIZES for state in some_states(n)]
STATES += [state for n in range(1, 5) for state in all_states(n)]


def squares_of(n, shade):
    rest = {"light": 0, "dark": 1}[shade]
    return [(i, j) for i, j in small_squares(n) if (i + j) % 2 == rest]


def half_by_definition(state, shade):
    """All that can be turned in the heights as they were, at once."""
    heights = heights_by_definition(state)
    told = [list(row) for row in heights]
    for i, j in squares_of(len(state), shade):
        turned = turned_by_definition(heights, i, j)
        if turned is not None:
            told[i][j] = turned[i][j]
    return signs_between(told)


def rings_of_both_sorts(state):
    return len(rings(state)) + len(rings_beside(state))


class GyreCase(AskCase):
    def expect_carried(self, told, links_told, places):
        """That places[k] and places[l] are linked where the links told link k and l."""
        roads = len(links_told)
        self.assertEqual(sorted(places), list(range(roads)))
        self.assertEqual([told[places[k]] for k in range(roads)], [places[links_told[k]] for k in range(roads)])


def moved(roads, step):
    return [(k + step) % roads for k in range(roads)]


class HalfTurns(GyreCase):
    def test_all_that_can_be_turned_at_once(self):
        for state in STATES:
            for shade in SHADES:
                told = half_turn(state, shade)
                self.assertEqual(repr(told), repr(half_by_definition(state, shade)))
                self.assertIs(is_state(told), True)

    def test_no_other_height_changes(self):
        for state in STATES:
            n = len(state)
            before = heights_by_definition(state)
            for shade in SHADES:
                behind = heights_by_definition(half_turn(state, shade))
                level = [point for point in squares_of(n, shade) if len(round_point(before, *point)) == 1]
                for i in range(n + 1):
                    for j in range(n + 1):
                        self.assertEqual(abs(behind[i][j] - before[i][j]), 2 if (i, j) in level else 0)

    def test_twice_leads_back(self):
        for state in STATES:
            for shade in SHADES:
                self.assertEqual(repr(half_turn(half_turn(state, shade), shade)), repr(state))

    def test_small_sizes(self):
        for shade in SHADES:
            self.assertEqual(half_turn([[1]], shade), [[1]])
        low, high = [[1, 0], [0, 1]], [[0, 1], [1, 0]]
        self.assertEqual((half_turn(low, "light"), half_turn(high, "light")), (high, low))
        self.assertEqual((half_turn(low, "dark"), half_turn(high, "dark")), (low, high))
        self.assertEqual(half_turn(diagonal(3), "light"), [[0, 1, 0], [1, -1, 1], [0, 1, 0]])
        self.assertEqual(half_turn(diagonal(3), "dark"), diagonal(3))
        self.assertEqual(half_turn(diamond(3), "dark"), [[0, 0, 1], [0, 1, 0], [1, 0, 0]])

    def test_the_least_state_is_turned_along_its_diagonal(self):
        for n in SIZES:
            heights = heights_by_definition(diagonal(n))
            for i in range(1, n):
                heights[i][i] = 2
            self.assertEqual(half_turn(diagonal(n), "light"), signs_between(heights))
            self.assertEqual(half_turn(diagonal(n), "dark"), diagonal(n))

    def test_links(self):
        for state in STATES:
            roads = 2 * len(state)
            light, dark = half_turn(state, "light"), half_turn(state, "dark")
            self.expect_carried(links_beside(light), links(state), moved(roads, -1))
            self.expect_carried(links_beside(dark), links(state), moved(roads, 0))

    def test_links_beside(self):
        for state in STATES:
            roads = 2 * len(state)
            light, dark = half_turn(state, "light"), half_turn(state, "dark")
            self.expect_carried(links(light), links_beside(state), moved(roads, 1))
            self.expect_carried(links(dark), links_beside(state), moved(roads, 0))

    def test_rings(self):
        found = []
        for state in STATES:
            found.append(rings_of_both_sorts(state))
            for shade in SHADES:
                self.assertEqual(rings_of_both_sorts(half_turn(state, shade)), found[-1])
        self.assertGreaterEqual(len(set(found)), 5)


class GreatTurns(GyreCase):
    def test_light_then_dark(self):
        for state in STATES:
            due = half_by_definition(half_by_definition(state, "light"), "dark")
            self.assertEqual(repr(great_turn(state)), repr(due))

    def test_back_is_dark_then_light(self):
        for state in STATES:
            due = half_by_definition(half_by_definition(state, "dark"), "light")
            self.assertEqual(repr(great_turn_back(state)), repr(due))

    def test_each_takes_the_other_back(self):
        for state in STATES:
            self.assertEqual(great_turn_back(great_turn(state)), state)
            self.assertEqual(great_turn(great_turn_back(state)), state)

    def test_small_sizes(self):
        self.assertEqual((great_turn([[1]]), great_turn_back([[1]])), ([[1]], [[1]]))
        self.assertEqual(great_turn([[1, 0], [0, 1]]), [[0, 1], [1, 0]])
        self.assertEqual(great_turn_back([[1, 0], [0, 1]]), [[0, 1], [1, 0]])
        self.assertEqual(great_turn(diagonal(3)), [[0, 0, 1], [0, 1, 0], [1, 0, 0]])
        self.assertEqual(great_turn_back(diagonal(3)), [[0, 1, 0], [1, -1, 1], [0, 1, 0]])

    def test_open_roads_one_less(self):
        for state in STATES:
            roads = 2 * len(state)
            self.expect_carried(links(great_turn(state)), links(state), moved(roads, -1))
            self.expect_carried(links(great_turn_back(state)), links(state), moved(roads, 1))

    def test_shut_roads_one_more(self):
        for state in STATES:
            roads = 2 * len(state)
            self.expect_carried(links_beside(great_turn(state)), links_beside(state), moved(roads, 1))
            self.expect_carried(links_beside(great_turn_back(state)), links_beside(state), moved(roads, -1))

    def test_rings(self):
        for state in STATES:
            number = rings_of_both_sorts(state)
            self.assertEqual(rings_of_both_sorts(great_turn(state)), number)
            self.assertEqual(rings_of_both_sorts(great_turn_back(state)), number)

    def test_once_round_the_floor(self):
        for n in SIZES:
            state = some_states(n)[-1]
            carried = state
            for turn in range(2 * n):
                carried = great_turn(carried)
            self.assertEqual((links(carried), links_beside(carried)), (links(state), links_beside(state)))


class Mirrors(GyreCase):
    def test_crossed_signs(self):
        for state in STATES:
            n = len(state)
            told = crossed(state)
            self.assertEqual(repr(told), repr([[state[c][r] for c in range(n)] for r in range(n)]))
            self.assertIs(is_state(told), True)
            self.assertEqual(crossed(told), state)

    def test_crossed_size_three(self):
        self.assertEqual(crossed([[0, 1, 0], [0, 0, 1], [1, 0, 0]]), [[0, 0, 1], [1, 0, 0], [0, 1, 0]])

    def test_links_beside_of_the_crossed_state(self):
        for state in STATES:
            roads = 2 * len(state)
            places = [roads - 1 - k for k in range(roads)]
            self.expect_carried(links_beside(crossed(state)), links(state), places)

    def test_mirrored_is_the_half_turn_by_light_of_the_crossed_state(self):
        for state in STATES:
            n = len(state)
            due = half_by_definition([[state[c][r] for c in range(n)] for r in range(n)], "light")
            self.assertEqual(repr(mirrored(state)), repr(due))

    def test_links_of_the_mirrored_state(self):
        for state in STATES:
            roads = 2 * len(state)
            places = [(roads - k) % roads for k in range(roads)]
            self.expect_carried(links(mirrored(state)), links(state), places)

    def test_small_sizes(self):
        self.assertEqual(mirrored([[1]]), [[1]])
        self.assertEqual(mirrored([[1, 0], [0, 1]]), [[0, 1], [1, 0]])
        self.assertEqual(mirrored([[0, 1, 0], [0, 0, 1], [1, 0, 0]]), [[0, 0, 1], [1, 0, 0], [0, 1, 0]])
        self.assertEqual(mirrored(diagonal(3)), [[0, 1, 0], [1, -1, 1], [0, 1, 0]])


class Keeping(AskCase):
    def test_lists_are_the_askers_own(self):
        for n in SIZES:
            for state in some_states(n)[:8]:
                for ask in (great_turn, great_turn_back, crossed, mirrored):
                    self.expect_own(ask, [list(row) for row in state])
                for shade in SHADES:
                    self.expect_own(half_turn, [list(row) for row in state], shade)

    def test_a_state_a_bit_beyond_the_bounds(self):
        for state in (diagonal(13), flipped(diagonal(13)), diamond(13)):
            for shade in SHADES:
                self.assertEqual(half_turn(state, shade), half_by_definition(state, shade))
            self.assertEqual(great_turn_back(great_turn(state)), state)
            self.assertEqual(crossed(crossed(state)), state)
            self.assertEqual(mirrored(mirrored(state)), half_turn(crossed(half_turn(crossed(state), "light")), "light"))


class Interface(AskCase):
    def test_arguments(self):
        self.expect_arguments(half_turn, "(state, shade)")
        for ask in (great_turn, great_turn_back, crossed, mirrored):
            self.expect_arguments(ask, "(state)")
