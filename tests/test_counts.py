import itertools
import math
from fractions import Fraction

from loopgyre.counts import by_product, by_steps, by_walking, tops_by_product, tops_by_steps, tops_by_walking
from loopgyre.errors import NoSize
from samples import AskCase, all_states, by_turns

NUMBERS = (by_walking, by_steps, by_product)
TOPS = (tops_by_walking, tops_by_steps, tops_by_product)
MOST = {
    by_walking: 5, tops_by_walking: 5, by_steps: 7, tops_by_steps: 7, by_product: 30, tops_by_product: 30,
}


def product_of_fractions(n, factors):
    told = Fraction(1)
    for j in range(factors):
        told *= Fraction(math.factorial(3 * j + 1), math.factorial(n + j))
    return told


def top_by_fractions(n, c):
    over = math.factorial(n + c - 1) * math.factorial(2 * n - 2 - c)
    under = math.factorial(c) * math.factorial(n - 1) * math.factorial(n - 1 - c)
    return product_of_fractions(n, n - 1) * Fraction(over, under)


def tops_of(states, n):
    return [sum(state[0].index(1) == c for state in states) for c in range(n)]


def sums_behind(before):
    """The sums of columns that one row of signs more can lead to."""
    all_sums = itertools.product((0, 1), repeat=len(before))
    return [sums for sums in all_sums if by_turns([new - old for new, old in zip(sums, before)])]


def tops_by_rows(n):
    """Counted from row to row by the columns' sums, one first row at a time."""
    counted = []
    for c in range(n):
        ways = {tuple(int(column == c) for column in range(n)): 1}
        for row in range(1, n):
            further = {}
            for before, number in ways.items():
                for sums in sums_behind(before):
                    further[sums] = further.get(sums, 0) + number
            ways = further
        counted.append(ways[(1,) * n])
    return counted


class Counts(AskCase):
    def test_numbers_told(self):
        told = [1, 2, 7, 42, 429, 7436, 218348]
        for ask in NUMBERS:
            for n, number in enumerate(told[:MOST[ask]], start=1):
                self.assertEqual(repr(ask(n)), repr(number))
        self.assertEqual([by_product(n) for n in (8, 9, 10)], [10850216, 911835460, 129534272700])

    def test_tops_told(self):
        told = [[1], [1, 1], [2, 3, 2], [7, 14, 14, 7], [42, 105, 135, 105, 42], [429, 1287, 2002, 2002, 1287, 429]]
        for ask in TOPS:
            for n, numbers in enumerate(told[:MOST[ask]], start=1):
                self.assertEqual(repr(ask(n)), repr(numbers))

    def test_alike_where_more_than_one_answers(self):
        for n in range(1, 8):
            for asks in (NUMBERS, TOPS):
                answers = [repr(ask(n)) for ask in asks if n <= MOST[ask]]
                self.assertGreaterEqual(len(answers), 2)
                self.assertEqual(len(set(answers)), 1)

    def test_all_states_of_small_sizes(self):
        for n in range(1, 5):
            states = all_states(n)
            for ask in NUMBERS:
                self.assertEqual(ask(n), len(states))
            for ask in TOPS:
                self.assertEqual(ask(n), tops_of(states, n))

    def test_counted_from_row_to_row(self):
        for n in range(1, 8):
            due = tops_by_rows(n)
            for ask in TOPS:
                if n <= MOST[ask]:
                    self.assertEqual(ask(n), due)

    def test_products_of_fractions(self):
        for n in range(1, 31):
            self.assertEqual(by_product(n), product_of_fractions(n, n))
            self.assertEqual(tops_by_product(n), [top_by_fractions(n, c) for c in range(n)])

    def test_tops_come_to_all(self):
        for numbers, tops in zip(NUMBERS, TOPS):
            for n in range(1, MOST[tops] + 1):
                told = tops(n)
                self.assertEqual(sum(told), numbers(n))
                self.assertEqual(told, told[::-1])
                if n > 1:
                    self.assertEqual(told[0], numbers(n - 1))

    def test_whole_numbers(self):
        for numbers, tops in zip(NUMBERS, TOPS):
            for n in range(1, MOST[tops] + 1):
                self.assertIs(type(numbers(n)), int)
                self.assertIs(type(tops(n)), list)
                self.assertEqual([type(number) for number in tops(n)], [int] * n)

    def test_no_size(self):
        for ask, most in MOST.items():
            self.expect_no_size(ask, most)


class Keeping(AskCase):
    def test_lists_are_the_askers_own(self):
        for ask, most in MOST.items():
            for n in range(1, most + 1):
                self.expect_own(ask, n)

    def test_a_refusal_changes_no_later_answer(self):
        for ask, most in MOST.items():
            before = repr(ask(most))
            for n in (0, most + 1):
                self.expect_refusal(NoSize, ask, n)
                self.assertEqual(repr(ask(most)), before)


class Interface(AskCase):
    def test_arguments(self):
        for ask in NUMBERS + TOPS:
            self.expect_arguments(ask, "(n)")
