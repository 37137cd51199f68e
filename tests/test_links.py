import itertools

from loopgyre.errors import NoRoad
from loopgyre.floors import place_of, road_of
from loopgyre.links import links, links_beside, rings, rings_beside, way, way_beside
from samples import (
    SIZES, AskCase, all_states, diagonal, diamond, flipped, sides_by_definition, some_states, walked_at,
)

SIDES = {(-1, 0): "U", (0, 1): "R", (1, 0): "D", (0, -1): "L"}
STEPS = {side: step for step, side in SIDES.items()}
BACK = {"U": "D", "R": "L", "D": "U", "L": "R"}

# A ring in the midst, and the same with the walked sides and the others exchanged.
RINGED = [[0, 1, 0, 0], [0, 0, 0, 1], [1, 0, 0, 0], [0, 0, 1, 0]]
RINGED_BESIDE = [[0, 0, 1, 0], [1, 0, 0, 0], [0, 0, 0, 1], [0, 1, 0, 0]]
MIDST = [(1, 1), (1, 2), (2, 1), (2, 2)]


class Sort:
    """One of the two sorts of ways: its questions, its sides and its roads."""

    def __init__(self, ask_way, ask_links, ask_rings, mark):
        self.way = ask_way
        self.links = ask_links
        self.rings = ask_rings
        self.mark = mark

    def sides(self, state):
        """The two sides of each place that ways of this sort go over."""
        n = len(state)
        pair = sides_by_definition(state)
        told = {}
        for at in itertools.product(range(n), repeat=2):
            told[at] = {side for side, number in walked_at(pair, *at).items() if number == self.mark}
        return told

    def road(self, k):
        return 2 * k + 1 - self.mark


SORTS = (Sort(way, links, rings, 1), Sort(way_beside, links_beside, rings_beside, 0))


def pieces(sides):
    """The places that hang together over these sides, each piece as a sorted list."""
    left = set(sides)
    told = []
    while left:
        piece = set()
        front = [min(left)]
        while front:
            at = front.pop()
            if at in left:
                left.discard(at)
                piece.add(at)
                front += [(at[0] + STEPS[side][0], at[1] + STEPS[side][1]) for side in sides[at]]
        told.append(sorted(piece))
    return sorted(told)


def road_ends(n, sides, at):
    roads = [road_of(n, *at, side) for side in sorted(sides[at])]
    return [road for road in roads if road is not None]


def all_some_states():
    return [state for n in SIZES for state in some_states(n)]


class Ways(AskCase):
    def expect_way(self, sort, state, sides, k):
        """That the way goes as told; the number of the road it leads to."""
        n = len(state)
        told = sort.way(state, k)
        self.assertIs(type(told), list)
        self.assertEqual({type(at) for at in told}, {tuple})
        self.assertEqual({type(number) for at in told for number in at}, {int})
        r, c, came = place_of(n, sort.road(k))
        self.assertEqual(told[0], (r, c))
        for here, there in zip(told, told[1:]):
            out = SIDES[(there[0] - here[0], there[1] - here[1])]
            self.assertNotEqual(came, out)
            self.assertEqual({came, out}, sides[here])
            came = BACK[out]
        self.assertIn(came, sides[told[-1]])
        out, = sides[told[-1]] - {came}
        road = road_of(n, *told[-1], out)
        self.assertIsNotNone(road)
        self.assertEqual(road % 2, 1 - sort.mark)
        return road // 2

    def expect_ways(self, state):
        n = len(state)
        for sort in SORTS:
            sides = sort.sides(state)
            told = sort.links(state)
            self.assertIs(type(told), list)
            self.assertEqual([type(number) for number in told], [int] * (2 * n))
            for k in range(2 * n):
                other = self.expect_way(sort, state, sides, k)
                self.assertNotEqual(other, k)
                self.assertEqual(told[k], other)
                self.assertEqual(told[other], k)
                self.assertEqual(sort.way(state, other), sort.way(state, k)[::-1])

    def test_states_of_all_sizes(self):
        for state in all_some_states():
            self.expect_ways(state)

    def test_all_states_of_small_sizes(self):
        for n in range(1, 5):
            for state in all_states(n):
                self.expect_ways(state)

    def test_size_one(self):
        for sort in SORTS:
            self.assertEqual(sort.links([[1]]), [1, 0])
            self.assertEqual([sort.way([[1]], k) for k in (0, 1)], [[(0, 0)], [(0, 0)]])

    def test_size_two(self):
        state = [[1, 0], [0, 1]]
        self.assertEqual((links(state), links_beside(state)), ([3, 2, 1, 0], [3, 2, 1, 0]))
        ways = [[(0, 0), (1, 0)], [(0, 1), (1, 1)], [(1, 1), (0, 1)], [(1, 0), (0, 0)]]
        self.assertEqual([way(state, k) for k in range(4)], ways)
        ways = [[(0, 1), (0, 0)], [(1, 1), (1, 0)], [(1, 0), (1, 1)], [(0, 0), (0, 1)]]
        self.assertEqual([way_beside(state, k) for k in range(4)], ways)
        state = [[0, 1], [1, 0]]
        self.assertEqual((links(state), links_beside(state)), ([1, 0, 3, 2], [1, 0, 3, 2]))
        self.assertEqual(way(state, 0), [(0, 0), (0, 1)])
        self.assertEqual(way_beside(state, 0), [(0, 1), (1, 1)])

    def test_size_three(self):
        self.assertEqual(links(diagonal(3)), [5, 4, 3, 2, 1, 0])
        self.assertEqual(links_beside(diagonal(3)), [5, 4, 3, 2, 1, 0])
        self.assertEqual(links(diamond(3)), [1, 0, 5, 4, 3, 2])
        self.assertEqual(links_beside(diamond(3)), [3, 2, 1, 0, 5, 4])
        self.assertEqual(way(diamond(3), 2), [(1, 2), (1, 1), (1, 0)])
        self.assertEqual(way(diamond(3), 5), [(1, 0), (1, 1), (1, 2)])
        self.assertEqual(way_beside(diamond(3), 3), [(2, 1), (1, 1), (0, 1)])

    def test_a_way_that_winds(self):
        self.assertEqual(links(RINGED), [1, 0, 3, 2, 5, 4, 7, 6])
        self.assertEqual(way(RINGED, 0), [(0, 0), (0, 1), (0, 2)])

    def test_links_of_the_least_state(self):
        for n in SIZES:
            self.assertEqual(links(diagonal(n)), list(range(2 * n))[::-1])
            self.assertEqual(links_beside(diagonal(n)), list(range(2 * n))[::-1])

    def test_no_two_links_cross(self):
        for state in all_some_states():
            for sort in SORTS:
                told = sort.links(state)
                for a, b in itertools.combinations(range(len(told)), 2):
                    self.assertFalse(b < told[a] < told[b])

    def test_no_road(self):
        for n in SIZES:
            for state in (diagonal(n), flipped(diagonal(n)), some_states(n)[-1]):
                for k in (-1, -2, -n, -2 * n, -2 * n - 1, 2 * n, 2 * n + 1, 4 * n - 1, 4 * n, 10 ** 29, -(10 ** 29)):
                    for sort in SORTS:
                        self.expect_refusal(NoRoad, sort.way, state, k)

    def test_the_last_road(self):
        for n in SIZES:
            state = some_states(n)[-1]
            for sort in SORTS:
                self.assertEqual(sort.way(state, 2 * n - 1)[0], place_of(n, sort.road(2 * n - 1))[:2])

    def test_a_state_a_bit_beyond_the_bounds(self):
        for state in (diagonal(13), flipped(diagonal(13)), diamond(13)):
            for sort in SORTS:
                told = sort.links(state)
                self.assertEqual([told[other] for other in told], list(range(26)))
                ways = [sort.way(state, k) for k in range(26) if k < told[k]]
                places = sum(ways + sort.rings(state), [])
                self.assertEqual(sorted(places), list(itertools.product(range(13), repeat=2)))
                self.expect_refusal(NoRoad, sort.way, state, 26)


class Rings(AskCase):
    def expect_rings(self, state):
        n = len(state)
        counts = []
        for sort in SORTS:
            sides = sort.sides(state)
            due = [piece for piece in pieces(sides) if not any(road_ends(n, sides, at) for at in piece)]
            told = sort.rings(state)
            self.assertEqual(repr(told), repr(due))
            counts.append(len(told))
            firsts = [k for k, other in enumerate(sort.links(state)) if k < other]
            on_ways = sum([sort.way(state, k) for k in firsts], [])
            self.assertEqual(sorted(on_ways + sum(told, [])), list(itertools.product(range(n), repeat=2)))
        return counts

    def test_states_of_all_sizes(self):
        counts = [self.expect_rings(state) for state in all_some_states()]
        for number in (0, 1, 2, 3):
            for sort in (0, 1):
                self.assertGreater([count[sort] for count in counts].count(number), 0)

    def test_all_states_of_small_sizes(self):
        for n in range(1, 5):
            for state in all_states(n):
                self.expect_rings(state)

    def test_a_ring_in_the_midst(self):
        self.assertEqual((rings(RINGED), rings_beside(RINGED)), ([MIDST], []))
        self.assertEqual((rings(RINGED_BESIDE), rings_beside(RINGED_BESIDE)), ([], [MIDST]))

    def test_the_only_rings_of_small_sizes(self):
        for n in range(1, 5):
            for state in all_states(n):
                self.assertEqual(rings(state), [MIDST] if state == RINGED else [])
                self.assertEqual(rings_beside(state), [MIDST] if state == RINGED_BESIDE else [])

    def test_no_rings(self):
        for n in SIZES:
            for sort in SORTS:
                self.assertEqual(sort.rings(diagonal(n)), [])

    def test_kinds_of_what_is_told(self):
        for state in all_some_states():
            for sort in SORTS:
                told = sort.rings(state)
                self.assertIs(type(told), list)
                self.assertEqual(told, sorted(told))
                for ring in told:
                    self.assertIs(type(ring), list)
                    self.assertEqual(ring, sorted(ring))
                    self.assertEqual({type(at) for at in ring}, {tuple})
                    self.assertGreaterEqual(len(ring), 4)


class Keeping(AskCase):
    def test_lists_are_the_askers_own(self):
        for n in SIZES:
            for state in some_states(n)[2:7]:
                for sort in SORTS:
                    for ask in (sort.links, sort.rings):
                        self.expect_own(ask, [list(row) for row in state])
                    for k in range(2 * n):
                        self.expect_own(sort.way, [list(row) for row in state], k)

    def test_rings_are_the_askers_own(self):
        self.expect_own(rings, [list(row) for row in RINGED])
        self.expect_own(rings_beside, [list(row) for row in RINGED_BESIDE])

    def test_a_refusal_changes_no_later_answer(self):
        state = [[1, 0], [0, 1]]
        for sort, due in zip(SORTS, ([(0, 0), (1, 0)], [(0, 1), (0, 0)])):
            for k in (-1, 4):
                self.expect_refusal(NoRoad, sort.way, state, k)
                self.assertEqual(sort.way(state, 0), due)
                self.assertEqual(sort.links(state), [3, 2, 1, 0])


class Interface(AskCase):
    def test_arguments(self):
        for sort in SORTS:
            self.expect_arguments(sort.way, "(state, k)")
            self.expect_arguments(sort.links, "(state)")
            self.expect_arguments(sort.rings, "(state)")
