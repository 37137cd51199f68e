"""What several tests share: states found without the program, things that are no form, and how a form is asked."""

import copy
import inspect
import itertools
import random
import unittest

from loopgyre.errors import NoSize, NoState, Unlike

SIZES = range(1, 13)


def diagonal(n):
    return [[1 if c == r else 0 for c in range(n)] for r in range(n)]


def flipped(table):
    return [row[::-1] for row in table]


def diamond(n):
    """1 and -1 by turns in a diamond; one row and column more where n is even."""
    half = (n - 1) // 2
    odd = 2 * half + 1
    table = [[0] * n for row in range(n)]
    for r in range(odd):
        reach = min(r, odd - 1 - r)
        for step in range(2 * reach + 1):
            table[r][half - reach + step] = 1 if step % 2 == 0 else -1
    if odd < n:
        table[n - 1][n - 1] = 1
    return table


def wander(n, chance, steps):
    """A state that lies some steps of heights away from the diagonal."""
    heights = [[abs(i - j) for j in range(n + 1)] for i in range(n + 1)]
    for step in range(steps if n > 1 else 0):
        i, j = chance.randint(1, n - 1), chance.randint(1, n - 1)
        around = {heights[i - 1][j], heights[i + 1][j], heights[i][j - 1], heights[i][j + 1]}
        if len(around) == 1:
            heights[i][j] = 2 * around.pop() - heights[i][j]
    return signs_between(heights)


def sign_between(heights, r, c):
    return (heights[r][c + 1] + heights[r + 1][c] - heights[r][c] - heights[r + 1][c + 1]) // 2


def signs_between(heights):
    n = len(heights) - 1
    return [[sign_between(heights, r, c) for c in range(n)] for r in range(n)]


def heights_by_definition(state):
    n = len(state)
    return [[i + j - 2 * sum(sum(row[:j]) for row in state[:i]) for j in range(n + 1)] for i in range(n + 1)]


def sides_by_definition(state):
    """Told by the sums of signs: an arrow is 1 across where the sum is 0, down where it is 1."""
    n = len(state)
    across = [[int((sum(row[:j]) == 0) == ((r + j) % 2 == 1)) for j in range(n + 1)] for r, row in enumerate(state)]
    down = [
        [int((sum(row[c] for row in state[:i]) == 1) == ((i + c) % 2 == 1)) for c in range(n)]
        for i in range(n + 1)
    ]
    return (across, down)


def walked_at(pair, r, c):
    across, down = pair
    return {"L": across[r][c], "R": across[r][c + 1], "U": down[r][c], "D": down[r + 1][c]}


def small_squares(n):
    return list(itertools.product(range(1, n), repeat=2))


def round_point(heights, i, j):
    return {heights[i - 1][j], heights[i + 1][j], heights[i][j - 1], heights[i][j + 1]}


def turned_by_definition(heights, i, j):
    """The heights behind the turn, None where it can't be turned."""
    around = round_point(heights, i, j)
    if len(around) != 1:
        return None
    level = around.pop()
    told = [list(row) for row in heights]
    told[i][j] = level - 1 if heights[i][j] == level + 1 else level + 1
    return told


def fewest_turns(start):
    """From this state to each one, by trying all turns: how many are needed, by the state's heights."""
    n = len(start)
    first = heights_by_definition(start)
    found = {repr(first): 0}
    front = [first]
    while front:
        further = []
        for heights in front:
            for i, j in small_squares(n):
                told = turned_by_definition(heights, i, j)
                if told is not None and repr(told) not in found:
                    found[repr(told)] = found[repr(heights)] + 1
                    further.append(told)
        front = further
    return found


def some_states(n):
    chance = random.Random(n)
    told = [diagonal(n), flipped(diagonal(n)), diamond(n), flipped(diamond(n))]
    return told + [wander(n, chance, 40 * n * n) for turn in range(20)]


def all_states(n):
    """Every state of a small size, by trying all rows of 1 and -1 by turns."""
    rows = [row for row in itertools.product((-1, 0, 1), repeat=n) if by_turns(row)]
    tables = ([list(row) for row in table] for table in itertools.product(rows, repeat=n))
    return [table for table in tables if all(by_turns(line) for line in zip(*table))]


def by_turns(line):
    """Whether the numbers other than 0 are 1 and -1 by turns, first and last 1."""
    told = [sign for sign in line if sign != 0]
    return len(told) % 2 == 1 and told == [1 if k % 2 == 0 else -1 for k in range(len(told))]


NO_LISTS = (None, True, False, 0, 1, -1, 2, 10 ** 29, -(10 ** 29), "", "1", "0 1", "[[0, 1], [1, 0]]", (), (1,), ((1,),))
NO_NUMBERS = (True, False, None, "", "0", "1", "-1", [], [0], [1], [[1]], (), (0,), (1,))


def deep_list(levels):
    deep = []
    for level in range(levels):
        deep = [deep]
    return deep


def lists_within(thing):
    """Every list in it, itself too, each as often as it stands there."""
    told = [thing] if isinstance(thing, list) else []
    for part in thing if isinstance(thing, (list, tuple)) else ():
        told += lists_within(part)
    return told


def spoil(thing):
    """Changes every list in it, from the innermost on."""
    for part in reversed(lists_within(thing)):
        part.reverse()
        part.append("spoilt")


def web_by_chance(n, chance):
    """A web: links begun and ended by chance, each ending the one begun last."""
    web, begun = [None] * (2 * n), []
    for k in range(2 * n):
        if begun and (len(begun) == 2 * n - k or chance.random() < 0.5):
            other = begun.pop()
            web[k], web[other] = other, k
        else:
            begun.append(k)
    return web


def some_webs(n):
    chance = random.Random(n)
    nested = list(range(2 * n))[::-1]
    side_by_side = [k + 1 if k % 2 == 0 else k - 1 for k in range(2 * n)]
    return [nested, side_by_side] + [web_by_chance(n, chance) for turn in range(20)]


class AskCase(unittest.TestCase):
    """Asks what takes states and numbers, and looks at what becomes of them and of what is told."""

    def expect_own(self, ask, *things):
        kept = copy.deepcopy(things)
        told = ask(*things)
        form = repr(told)
        self.assertEqual(things, kept)
        own = [id(part) for part in lists_within(told)]
        self.assertEqual(len(own), len(set(own)))
        self.assertFalse(set(own) & {id(part) for part in lists_within(things)})
        spoil(told)
        self.assertEqual(things, kept)
        again = ask(*things)
        self.assertEqual(repr(again), form)
        spoil(things)
        self.assertEqual(repr(again), form)
        self.assertEqual(repr(ask(*kept)), form)

    def expect_refusal(self, refusal, ask, *things):
        before = repr(things)
        with self.assertRaises(refusal, msg=before[:300]) as caught:
            ask(*things)
        self.assertIs(type(caught.exception), refusal)
        self.assertEqual(repr(things), before)

    def expect_unlike(self, ask):
        """That two states of any unlike sizes are refused, either way round."""
        for n, m in itertools.permutations(SIZES, 2):
            self.expect_refusal(Unlike, ask, diagonal(n), diagonal(m))
            self.expect_refusal(Unlike, ask, flipped(diagonal(n)), diamond(m))

    def expect_no_size(self, ask, most):
        """That what is no whole number from 1 to the most is refused."""
        far = (-2, -most, most + 2, 2 * most, 100, 10 ** 9, 10 ** 29, -(10 ** 29), 10 ** 30 - 1)
        for n in (0, -1, most + 1) + far + NO_NUMBERS:
            self.expect_refusal(NoSize, ask, n)

    def expect_arguments(self, ask, told):
        self.assertEqual(str(inspect.signature(ask)), told)


class FormCase(unittest.TestCase):
    """Asks one form; `of_state` and `to_state` are set by the tests of the form."""

    def expect_refused(self, thing, spot):
        before = repr(thing)
        with self.assertRaises(NoState, msg=before[:300]) as caught:
            self.to_state(thing)
        self.assertIs(type(caught.exception), NoState)
        told = caught.exception.spot
        self.assertEqual(told, spot, before[:300])
        if spot is not None:
            self.assertIs(type(told), tuple)
            self.assertEqual([type(at) for at in told], [int, int])
        self.assertEqual(repr(thing), before)

    def expect_no_form(self, thing):
        self.expect_refused(thing, None)

    def expect_state_and_back(self, state, form):
        """That the state is told so, and found again; by repr, for a truth would be equal to a number."""
        before = copy.deepcopy(state)
        told = self.of_state(state)
        self.assertEqual(repr(told), repr(form))
        self.assertEqual(repr(self.to_state(form)), repr(before))
        self.assertEqual(repr(form), repr(told))
        self.assertEqual(state, before)

    def expect_own_lists(self, state):
        kept = copy.deepcopy(state)
        told = self.of_state(state)
        form = copy.deepcopy(told)
        back = self.to_state(told)
        for one, other in ((told, state), (back, told), (back, state)):
            self.assertFalse({id(part) for part in lists_within(one)} & {id(part) for part in lists_within(other)})
        for one in (told, back):
            self.assertEqual(len(lists_within(one)), len({id(part) for part in lists_within(one)}))
        spoil(told)
        self.assertEqual((state, back), (kept, kept))
        self.assertEqual(self.of_state(state), form)
        spoil(back)
        self.assertEqual(self.to_state(form), kept)
        again = self.of_state(state)
        spoil(state)
        self.assertEqual(again, form)
        self.assertEqual(self.of_state(kept), form)


class PairTests:
    """Tests for a FormCase whose form has a number for each side, as (across, down).

    The form's own tests set `by_definition`, `fault`, `numbers` and `no_such_numbers`.
    """

    def changed(self, n, part, r, j, number):
        pair = self.by_definition(diagonal(n))
        pair[part][r][j] = number
        return pair

    def expect_as_told(self, pair):
        """That the pair is refused at the fault that the words tell, or is that of a state."""
        spot = self.fault(pair)
        if spot is None:
            self.assertEqual(self.of_state(self.to_state(pair)), pair)
        else:
            self.expect_refused(pair, spot)
        return spot

    def test_states_of_all_sizes(self):
        for n in SIZES:
            for state in some_states(n):
                self.expect_state_and_back(state, self.by_definition(state))

    def test_all_states_of_small_sizes(self):
        for n in range(1, 5):
            for state in all_states(n):
                self.expect_state_and_back(state, self.by_definition(state))

    def test_form_of_what_is_told(self):
        for n in SIZES:
            for state in some_states(n):
                told = self.of_state(state)
                self.assertIs(type(told), tuple)
                self.assertEqual([type(part) for part in lists_within(told)], [list] * (2 * n + 3))
                across, down = told
                self.assertEqual([len(row) for row in across], [n + 1] * n)
                self.assertEqual([len(row) for row in down], [n] * (n + 1))
                for row in across + down:
                    self.assertTrue(all(type(number) is int and number in self.numbers for number in row))

    def test_all_pairs_of_small_sizes(self):
        found = []
        for n in (1, 2):
            for told in itertools.product(self.numbers, repeat=2 * n * (n + 1)):
                half = n * (n + 1)
                across = [list(told[r * (n + 1):(r + 1) * (n + 1)]) for r in range(n)]
                down = [list(told[half + i * n:half + (i + 1) * n]) for i in range(n + 1)]
                found.append(self.expect_as_told((across, down)))
        self.assertEqual(found.count(None), 3)

    def test_each_number_changed(self):
        for n in SIZES:
            for state in some_states(n)[:6]:
                for part in (0, 1):
                    pair = self.by_definition(state)
                    for row in pair[part]:
                        for j, number in enumerate(row):
                            row[j] = sum(self.numbers) - number
                            self.assertIsNotNone(self.expect_as_told(pair))
                            row[j] = number

    def test_several_numbers_changed(self):
        for n in SIZES:
            chance = random.Random(n)
            for state in some_states(n):
                for turn in range(30):
                    pair = self.by_definition(state)
                    for change in range(chance.randint(2, 4)):
                        row = chance.choice(pair[chance.randint(0, 1)])
                        j = chance.randrange(len(row))
                        row[j] = sum(self.numbers) - row[j]
                    self.expect_as_told(pair)

    def test_a_side_between_two_places_is_told_at_the_first(self):
        for n in range(2, 13):
            for r in range(n):
                for j in range(1, n):
                    for part, at, step in ((0, (r, j), (r, j - 1)), (1, (j, r), (j - 1, r))):
                        pair = self.by_definition(diagonal(n))
                        pair[part][at[0]][at[1]] = sum(self.numbers) - pair[part][at[0]][at[1]]
                        self.expect_refused(pair, step)

    def test_no_tuple_of_two(self):
        for n in SIZES:
            across, down = self.by_definition(diagonal(n))
            for thing in ([across, down], (across,), (across, down, down), (across, down, None), (), across, down):
                self.expect_no_form(thing)
            self.expect_no_form((down, across))
        for thing in NO_LISTS + ([], [[1]], [[1, 1], [1]]):
            self.expect_no_form(thing)

    def test_parts_that_are_no_lists(self):
        for n in SIZES:
            across, down = self.by_definition(diagonal(n))
            for other in NO_LISTS:
                self.expect_no_form((other, down))
                self.expect_no_form((across, other))
            self.expect_no_form((tuple(across), down))
            self.expect_no_form((across, tuple(down)))

    def test_rows_that_are_no_lists(self):
        for n in SIZES:
            for part in (0, 1):
                for r in (0, -1):
                    for other in NO_LISTS:
                        pair = self.by_definition(diagonal(n))
                        pair[part][r] = other
                        self.expect_no_form(pair)
                    pair = self.by_definition(diagonal(n))
                    pair[part][r] = tuple(pair[part][r])
                    self.expect_no_form(pair)

    def test_lists_more_fewer_longer_shorter(self):
        for n in SIZES:
            for part in (0, 1):
                more, fewer = self.by_definition(diagonal(n)), self.by_definition(diagonal(n))
                more[part].append(list(more[part][-1]))
                fewer[part].pop()
                self.expect_no_form(more)
                self.expect_no_form(fewer)
                for r in range(n + part):
                    longer, shorter = self.by_definition(diagonal(n)), self.by_definition(diagonal(n))
                    longer[part][r].append(1)
                    shorter[part][r].pop()
                    self.expect_no_form(longer)
                    self.expect_no_form(shorter)

    def test_parts_of_unlike_sizes(self):
        for n in range(1, 12):
            small, great = self.by_definition(diagonal(n)), self.by_definition(diagonal(n + 1))
            self.expect_no_form((small[0], great[1]))
            self.expect_no_form((great[0], small[1]))

    def test_floors_of_thirteen_rows_or_of_none(self):
        for n in (13, 14, 40):
            self.expect_no_form(self.by_definition(diagonal(n)))
        for thing in (([], [[]]), ([], []), ([[]], [[]]), ([[1]], [[], []]), ([[]], [[], []])):
            self.expect_no_form(thing)

    def test_other_things_in_the_place_of_a_number(self):
        for n in SIZES:
            for other in NO_NUMBERS + self.no_such_numbers:
                for part in (0, 1):
                    for r, j in ((0, 0), (-1, -1), (0, -1), (-1, 0)):
                        self.expect_no_form(self.changed(n, part, r, j, other))

    def test_form_goes_ahead_of_an_earlier_fault(self):
        wrong = sum(self.numbers) - self.by_definition([[1]])[0][0][0]
        for last in (None, True, 5, "1"):
            pair = self.changed(2, 0, 0, 0, wrong)
            self.expect_refused(pair, (0, 0))
            pair[1][2][1] = last
            self.expect_no_form(pair)

    def test_deep_and_long_things(self):
        deep = deep_list(9000)
        across, down = self.by_definition(diagonal(2))
        things = [deep, (deep, deep), (across, deep), (deep, down), ([[1, 1]], [[deep], [1]]), tuple([1] * 9999)]
        things += [([[1] * 9000], [[1], [1]]), ([[]] * 4999, [[]] * 4999), (across, [[1, 1]] * 3000)]
        for thing in things:
            with self.assertRaises(NoState) as caught:
                self.to_state(thing)
            self.assertIsNone(caught.exception.spot)

    def test_lists_are_the_askers_own(self):
        for n in SIZES:
            for state in some_states(n)[:6]:
                self.expect_own_lists(state)
