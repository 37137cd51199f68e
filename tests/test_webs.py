import itertools
import random

from loopgyre.errors import NoRoad
from loopgyre.gyres import mirrored
from loopgyre.links import links, links_beside
from loopgyre.webs import is_web, joined, mirrored_web, turned_web, webs
from samples import NO_LISTS, NO_NUMBERS, SIZES, AskCase, deep_list, some_states, some_webs, web_by_chance

HUGE = 10 ** 29


def is_pairing(row):
    return all(far != k and row[far] == k for k, far in enumerate(row))


def crosses(pairing):
    """Whether of some four roads in order the first is linked to the third, the second to the fourth."""
    fours = itertools.combinations(range(len(pairing)), 4)
    return any(pairing[a] == c and pairing[b] == d for a, b, c, d in fours)


def pairings(roads):
    """All ways to link these roads two by two, each as a dict."""
    if not roads:
        return [{}]
    first, rest = roads[0], roads[1:]
    return [
        {first: far, far: first, **others}
        for far in rest for others in pairings([road for road in rest if road != far])
    ]


def all_pairings(n):
    return [[told[k] for k in range(2 * n)] for told in pairings(list(range(2 * n)))]


def webs_by_definition(n):
    return sorted(row for row in all_pairings(n) if not crosses(row))


def joined_by_definition(web, k):
    """The links as pairs, those of k and k + 1 taken away and others put there."""
    roads = len(web)
    after = (k + 1) % roads
    pairs = {frozenset((road, far)) for road, far in enumerate(web)}
    if web[k] != after:
        pairs -= {frozenset((k, web[k])), frozenset((after, web[after]))}
        pairs |= {frozenset((k, after)), frozenset((web[k], web[after]))}
    return by_pairs(pairs, roads)


def by_pairs(pairs, roads):
    told = [None] * roads
    for pair in pairs:
        one, other = pair
        told[one], told[other] = other, one
    return told


class Webs(AskCase):
    def expect_none(self, thing):
        before = repr(thing)
        self.assertIs(is_web(thing), False, before[:300])
        self.assertEqual(repr(thing), before)

    def test_webs_of_all_sizes(self):
        for n in SIZES:
            for web in some_webs(n):
                self.assertFalse(crosses(web))
                self.assertIs(is_web(web), True)

    def test_links_of_states(self):
        for n in SIZES:
            for state in some_states(n):
                self.assertIs(is_web(links(state)), True)
                self.assertIs(is_web(links_beside(state)), True)

    def test_all_rows_of_small_sizes(self):
        found = []
        for n in (1, 2):
            for told in itertools.product(range(-1, 2 * n + 1), repeat=2 * n):
                row = list(told)
                within = all(0 <= far < 2 * n for far in row)
                due = within and is_pairing(row) and not crosses(row)
                self.assertIs(is_web(row), due)
                found.append(due)
        self.assertEqual(found.count(True), 3)

    def test_all_pairings_of_small_sizes(self):
        for n in range(1, 6):
            for row in all_pairings(n):
                self.assertIs(is_web(row), not crosses(row))

    def test_two_links_that_cross(self):
        self.expect_none([2, 3, 0, 1])
        self.expect_none([3, 4, 5, 0, 1, 2])
        self.expect_none([1, 0, 4, 5, 2, 3])
        for n in range(2, 13):
            self.expect_none([(k + n) % (2 * n) for k in range(2 * n)])
            for web in some_webs(n):
                chance = random.Random(n)
                a, b = chance.sample([k for k in range(2 * n) if k < web[k]], 2)
                crossed = list(web)
                for one, other in ((a, web[b]), (b, web[a])):
                    crossed[one], crossed[other] = other, one
                self.assertTrue(is_pairing(crossed))
                self.assertIs(is_web(crossed), not crosses(crossed))

    def test_a_pair_of_crossing_links_anywhere(self):
        for n in range(2, 13):
            for a in range(2 * n - 3):
                web = [k + 1 if (k - a) % 2 == 0 else k - 1 for k in range(2 * n)]
                if a % 2 == 1:
                    web[0], web[-1] = 2 * n - 1, 0
                self.assertIs(is_web(web), True)
                web[a:a + 4] = [a + 2, a + 3, a, a + 1]
                self.assertTrue(is_pairing(web))
                self.expect_none(web)

    def test_a_road_linked_to_itself(self):
        for n in SIZES:
            self.expect_none(list(range(2 * n)))
            for k in range(2 * n):
                web = some_webs(n)[-1]
                far = web[k]
                web[k] = k
                self.expect_none(web)
                web[far] = far
                self.expect_none(web)

    def test_a_link_that_does_not_lead_back(self):
        self.expect_none([1, 2, 3, 0])
        self.expect_none([1, 0, 1, 0])
        self.expect_none([1, 1])
        self.expect_none([0, 0])
        for n in range(2, 13):
            for web in some_webs(n)[:6]:
                for k, far in itertools.product(range(2 * n), repeat=2):
                    if far != web[k]:
                        self.expect_none(web[:k] + [far] + web[k + 1:])

    def test_numbers_beyond(self):
        for n in SIZES:
            for web in some_webs(n)[:6]:
                for k in range(2 * n):
                    for far in (-1, -2, -2 * n, -2 * n - 1, 2 * n, 2 * n + 1, HUGE, -HUGE, web[k] - 2 * n, web[k] + 2 * n):
                        self.expect_none(web[:k] + [far] + web[k + 1:])
        self.expect_none([-1, -2])
        self.expect_none([-1, 0])
        self.expect_none([2, 1])

    def test_all_numbers_from_the_far_end(self):
        for n in SIZES:
            for web in some_webs(n)[:6]:
                self.expect_none([far - 2 * n for far in web])

    def test_other_things_in_the_place_of_a_number(self):
        for n in SIZES:
            for web in some_webs(n)[:3]:
                for k in (0, 1, n, 2 * n - 1, web[0], web[1]):
                    for other in NO_NUMBERS + (str(web[k]), [web[k]], (web[k],), list(web)):
                        self.expect_none(web[:k] + [other] + web[k + 1:])

    def test_truths_are_no_numbers(self):
        self.expect_none([True, False])
        self.expect_none([True, 0])
        self.expect_none([1, False])
        self.expect_none([True, 0, 3, 2])
        self.expect_none([3, 2, True, 0])

    def test_lengths(self):
        self.expect_none([])
        for n in SIZES:
            for web in some_webs(n)[:6]:
                self.expect_none(web[:-1])
                self.expect_none(web[1:])
                for more in (0, 2 * n - 1, 2 * n, None):
                    self.expect_none(web + [more])
        for length in range(1, 30, 2):
            self.expect_none([0] * length)
            self.expect_none(list(range(length))[::-1])
        self.assertIs(is_web(list(range(24))[::-1]), True)
        for n in (13, 14, 24, 1000, 4999):
            self.expect_none(list(range(2 * n))[::-1])
            self.expect_none([k + 1 if k % 2 == 0 else k - 1 for k in range(2 * n)])

    def test_no_lists(self):
        for thing in NO_LISTS + ("10", "[1, 0]", (1, 0), ((1, 0),), [[1, 0]], [(1, 0)]):
            self.expect_none(thing)
        for n in SIZES:
            for web in some_webs(n)[:3]:
                self.expect_none(tuple(web))
                self.expect_none([web])
                self.expect_none([web, web])
                self.expect_none("".join(str(far) for far in web))

    def test_deep_and_long_things(self):
        deep = deep_list(9000)
        for thing in (deep, [deep, deep], [1, deep], [deep, 0], (deep,)):
            self.assertIs(is_web(thing), False)
        for thing in ([1, 0] * 4999, [0] * 9999, ["1"] * 9998, tuple([1, 0] * 4999), [[1, 0]] * 3000):
            self.expect_none(thing)


class Listed(AskCase):
    def test_each_once_and_sorted(self):
        for n in range(1, 7):
            self.assertEqual(repr(webs(n)), repr(webs_by_definition(n)))

    def test_small_sizes(self):
        self.assertEqual(webs(1), [[1, 0]])
        self.assertEqual(webs(2), [[1, 0, 3, 2], [3, 2, 1, 0]])
        three = [[1, 0, 3, 2, 5, 4], [1, 0, 5, 4, 3, 2], [3, 2, 1, 0, 5, 4], [5, 2, 1, 4, 3, 0], [5, 4, 3, 2, 1, 0]]
        self.assertEqual(webs(3), three)
        self.assertEqual([len(webs(n)) for n in range(1, 7)], [1, 2, 5, 14, 42, 132])

    def test_each_is_a_web(self):
        for n in range(1, 7):
            told = webs(n)
            self.assertIs(type(told), list)
            for web in told:
                self.assertIs(type(web), list)
                self.assertIs(is_web(web), True)

    def test_no_size(self):
        self.expect_no_size(webs, 6)


def asked_webs():
    told = [web for n in SIZES for web in some_webs(n)[:8]]
    return told + [web for n in range(1, 6) for web in webs(n)]


class Joined(AskCase):
    def test_at_every_road(self):
        for web in asked_webs():
            for k in range(len(web)):
                told = joined(web, k)
                self.assertEqual(repr(told), repr(joined_by_definition(web, k)))
                self.assertIs(is_web(told), True)

    def test_small_sizes(self):
        self.assertEqual([joined([1, 0], k) for k in (0, 1)], [[1, 0], [1, 0]])
        side_by_side, nested = [1, 0, 3, 2], [3, 2, 1, 0]
        told = [side_by_side, nested, side_by_side, nested]
        self.assertEqual([joined(side_by_side, k) for k in range(4)], told)
        self.assertEqual([joined(nested, k) for k in range(4)], told)
        self.assertEqual(joined([5, 4, 3, 2, 1, 0], 0), [1, 0, 3, 2, 5, 4])
        self.assertEqual(joined([1, 0, 3, 2, 5, 4], 5), [5, 4, 3, 2, 1, 0])

    def test_linked_already(self):
        found = 0
        for web in asked_webs():
            for k in range(len(web)):
                if web[k] == (k + 1) % len(web):
                    found += 1
                    self.assertEqual(joined(web, k), web)
        self.assertGreater(found, 500)

    def test_at_the_last_road(self):
        for n in SIZES:
            for web in some_webs(n):
                told = joined(web, 2 * n - 1)
                self.assertEqual((told[2 * n - 1], told[0]), (0, 2 * n - 1))
                self.assertIs(is_web(told), True)

    def test_twice_is_once(self):
        for web in asked_webs():
            for k in range(len(web)):
                self.assertEqual(joined(joined(web, k), k), joined(web, k))

    def test_at_a_neighbour_and_at_the_road_again(self):
        for web in asked_webs():
            roads = len(web)
            if roads > 2:
                for k in range(roads):
                    for beside in ((k + 1) % roads, (k - 1) % roads):
                        self.assertEqual(joined(joined(joined(web, k), beside), k), joined(web, k))

    def test_far_roads_in_either_order(self):
        for web in asked_webs():
            roads = len(web)
            for k, far in itertools.combinations(range(roads), 2):
                if far - k not in (1, roads - 1):
                    self.assertEqual(joined(joined(web, k), far), joined(joined(web, far), k))

    def test_no_road(self):
        for n in SIZES:
            for web in some_webs(n)[:4]:
                for k in (-1, -2, -n, -2 * n, -2 * n - 1, 2 * n, 2 * n + 1, 4 * n, HUGE, -HUGE, 10 ** 30 - 1):
                    self.expect_refusal(NoRoad, joined, web, k)


class TurnedAndMirrored(AskCase):
    def test_turned(self):
        for web in asked_webs():
            roads = len(web)
            near = list(range(-2 * roads - 1, 2 * roads + 2))
            for t in near + [100, -100, HUGE, -HUGE, HUGE + 1, 10 ** 30 - 1, 1 - 10 ** 30]:
                pairs = {frozenset(((k + t) % roads, (far + t) % roads)) for k, far in enumerate(web)}
                told = turned_web(web, t)
                self.assertEqual(repr(told), repr(by_pairs(pairs, roads)))

    def test_turned_is_a_web(self):
        for web in asked_webs():
            for t in (-1, 0, 1, len(web), HUGE):
                self.assertIs(is_web(turned_web(web, t)), True)

    def test_turned_size_three(self):
        web = [1, 0, 5, 4, 3, 2]
        told = [[1, 0, 5, 4, 3, 2], [3, 2, 1, 0, 5, 4], [5, 4, 3, 2, 1, 0]]
        self.assertEqual([turned_web(web, t) for t in range(6)], told + told)
        self.assertEqual([turned_web(web, t) for t in (-1, -2, -3)], [told[2], told[1], told[0]])
        self.assertEqual(turned_web(web, 10 ** 29), told[10 ** 29 % 3])

    def test_turned_back_and_round(self):
        for web in asked_webs():
            for t in (-7, 0, 1, 5, HUGE):
                self.assertEqual(turned_web(turned_web(web, t), -t), web)
            self.assertEqual(turned_web(web, len(web)), web)

    def test_mirrored(self):
        for web in asked_webs():
            roads = len(web)
            pairs = {frozenset((-k % roads, -far % roads)) for k, far in enumerate(web)}
            told = mirrored_web(web)
            self.assertEqual(repr(told), repr(by_pairs(pairs, roads)))
            self.assertIs(is_web(told), True)
            self.assertEqual(mirrored_web(told), web)

    def test_mirrored_small_sizes(self):
        self.assertEqual(mirrored_web([1, 0]), [1, 0])
        self.assertEqual(mirrored_web([1, 0, 3, 2]), [3, 2, 1, 0])
        self.assertEqual(mirrored_web([1, 0, 5, 4, 3, 2]), [5, 4, 3, 2, 1, 0])
        self.assertEqual(mirrored_web([3, 2, 1, 0, 5, 4]), [3, 2, 1, 0, 5, 4])

    def test_links_of_the_mirrored_state(self):
        for n in SIZES:
            for state in some_states(n)[:6]:
                self.assertEqual(links(mirrored(state)), mirrored_web(links(state)))


class Keeping(AskCase):
    def test_lists_are_the_askers_own(self):
        for n in SIZES:
            for web in some_webs(n)[:8]:
                self.expect_own(mirrored_web, list(web))
                self.expect_own(is_web, list(web))
                for k in range(2 * n):
                    self.expect_own(joined, list(web), k)
                for t in (-1, 0, 1, 2 * n, HUGE):
                    self.expect_own(turned_web, list(web), t)

    def test_lists_of_webs_are_the_askers_own(self):
        for n in range(1, 7):
            self.expect_own(webs, n)

    def test_a_refusal_changes_no_later_answer(self):
        web = [1, 0, 3, 2]
        for k in (-1, 4):
            self.expect_refusal(NoRoad, joined, web, k)
            self.assertEqual(joined(web, 1), [3, 2, 1, 0])

    def test_a_web_a_bit_beyond_the_bounds(self):
        web = web_by_chance(13, random.Random(13))
        for k in range(26):
            self.assertEqual(joined(web, k), joined_by_definition(web, k))
        self.expect_refusal(NoRoad, joined, web, 26)
        self.assertEqual(turned_web(turned_web(web, 5), 21), web)
        self.assertEqual(mirrored_web(mirrored_web(web)), web)


class Interface(AskCase):
    def test_arguments(self):
        self.expect_arguments(is_web, "(thing)")
        self.expect_arguments(webs, "(n)")
        self.expect_arguments(joined, "(web, k)")
        self.expect_arguments(turned_web, "(web, t)")
        self.expect_arguments(mirrored_web, "(web)")
