import copy
import itertools
import unittest

from loopgyre.signs import is_state, signs_fault
from samples import SIZES, by_turns, diagonal, some_states


def by_definition(table):
    return all(by_turns(line) for line in table) and all(by_turns(line) for line in zip(*table))


def fault_by_definition(table):
    n = len(table)
    for r in range(n):
        for c in range(n):
            column = [row[c] for row in table]
            if sum(table[r][:c + 1]) not in (0, 1) or sum(column[:r + 1]) not in (0, 1):
                return (r, c)
            if c == n - 1 and sum(table[r]) != 1 or r == n - 1 and sum(column) != 1:
                return (r, c)
    return None


def all_tables(n):
    for signs in itertools.product((-1, 0, 1), repeat=n * n):
        yield [list(signs[r * n:r * n + n]) for r in range(n)]


class Case(unittest.TestCase):
    def expect_state(self, thing):
        before = copy.deepcopy(thing)
        self.assertIs(is_state(thing), True)
        self.assertIsNone(signs_fault(thing))
        self.assertEqual(thing, before)

    def expect_fault(self, thing, spot):
        before = repr(thing)
        self.assertIs(is_state(thing), False)
        told = signs_fault(thing)
        self.assertEqual(told, spot)
        self.assertIs(type(told), tuple)
        self.assertEqual([type(at) for at in told], [int, int])
        self.assertEqual(repr(thing), before)

    def expect_no_form(self, thing):
        before = repr(thing)
        with self.subTest(thing=before[:200]):
            self.assertIs(is_state(thing), False)
            self.assertIsNone(signs_fault(thing))
            self.assertEqual(repr(thing), before)


class States(Case):
    def test_the_one_state_of_size_one(self):
        self.expect_state([[1]])

    def test_states_of_all_sizes(self):
        for n in SIZES:
            for table in some_states(n):
                with self.subTest(n=n, table=table):
                    self.assertTrue(by_definition(table))
                    self.expect_state(table)

    def test_states_with_minus_ones(self):
        self.expect_state([[0, 1, 0], [1, -1, 1], [0, 1, 0]])
        self.expect_state([[0, 0, 1, 0], [0, 1, -1, 1], [1, -1, 1, 0], [0, 1, 0, 0]])

    def test_all_tables_of_small_sizes(self):
        for n, number in ((1, 1), (2, 2), (3, 7)):
            found = 0
            for table in all_tables(n):
                told = by_definition(table)
                found += told
                self.assertIs(is_state(table), told, table)
            self.assertEqual(found, number)

    def test_all_tables_of_size_four_with_good_rows(self):
        rows = [row for row in itertools.product((-1, 0, 1), repeat=4) if by_turns(row)]
        tables = [[list(row) for row in table] for table in itertools.product(rows, repeat=4)]
        self.assertEqual(sum(is_state(table) for table in tables), 42)
        for table in tables:
            self.assertIs(is_state(table), by_definition(table), table)

    def test_one_list_as_several_rows(self):
        row = [0, 1]
        self.expect_fault([row, row], (1, 0))


class Faults(Case):
    def test_size_one(self):
        self.expect_fault([[0]], (0, 0))
        self.expect_fault([[-1]], (0, 0))

    def test_in_a_row(self):
        self.expect_fault([[1, 1, 0], [0, 0, 1], [0, 0, 1]], (0, 1))
        self.expect_fault([[0, 1, 0], [1, 0, 1], [0, 0, 0]], (1, 2))
        self.expect_fault([[0, -1, 1], [0, 1, 0], [1, 0, 0]], (0, 1))

    def test_in_a_column(self):
        self.expect_fault([[1, 0, 0], [1, 0, 0], [0, 0, 1]], (1, 0))
        self.expect_fault([[0, 1, 0], [0, 1, 0], [1, 0, 0]], (1, 1))
        self.expect_fault([[0, 1, 0], [1, 0, 0], [1, -1, 1]], (2, 0))

    def test_minus_one_ahead_in_its_column_alone(self):
        self.expect_fault([[1, -1, 1], [0, 1, 0], [0, 1, 0]], (0, 1))

    def test_minus_one_ahead_in_its_row_alone(self):
        self.expect_fault([[1, 0, 0], [-1, 1, 1], [1, 0, 0]], (1, 0))

    def test_at_the_end_of_a_row(self):
        self.expect_fault([[0, 0, 0], [0, 1, 0], [1, 0, 0]], (0, 2))
        self.expect_fault([[1, 0, 0], [0, 0, 0], [0, 1, 0]], (1, 2))
        self.expect_fault([[1, 0, 0], [0, 1, 0], [0, 0, 0]], (2, 2))
        self.expect_fault([[0, 1, 0], [1, -1, 0], [0, 1, 1]], (1, 2))

    def test_at_the_end_of_a_column(self):
        self.expect_fault([[0, 1, 0], [0, 0, 1], [0, 0, 1]], (2, 0))
        self.expect_fault([[0, 1, 0], [1, -1, 1], [0, 0, 1]], (2, 1))
        self.expect_fault([[0, 0, 0], [0, 0, 0], [0, 0, 0]], (0, 2))

    def test_the_first_of_several(self):
        self.expect_fault([[-1, -1], [-1, -1]], (0, 0))
        self.expect_fault([[0, 1], [0, 1]], (1, 0))
        self.expect_fault([[1, 0], [1, 1]], (1, 0))

    def test_all_tables_of_small_sizes(self):
        for n in (1, 2, 3):
            for table in all_tables(n):
                self.assertEqual(signs_fault(table), fault_by_definition(table), table)

    def test_states_of_all_sizes_with_one_place_changed(self):
        for n in SIZES:
            for table in some_states(n)[:6]:
                for r in range(n):
                    for c in range(n):
                        for sign in {-1, 0, 1} - {table[r][c]}:
                            wrong = copy.deepcopy(table)
                            wrong[r][c] = sign
                            spot = fault_by_definition(wrong)
                            self.assertIsNotNone(spot)
                            self.assertIs(is_state(wrong), False)
                            self.assertEqual(signs_fault(wrong), spot)

    def test_a_row_twice_or_two_columns_apart(self):
        for n in range(2, 13):
            table = diagonal(n)
            table[n - 1] = list(table[0])
            self.expect_fault(table, (n - 1, 0))
            table = diagonal(n)
            table[0] = [0] * n
            self.expect_fault(table, (0, n - 1))
            table = diagonal(n)
            table[n - 1] = [0] * n
            self.expect_fault(table, (n - 1, n - 1))


class Forms(Case):
    def test_no_list(self):
        for thing in (None, True, False, 0, 1, -1, 10 ** 29, "", "1", "+", "[[1]]", (), (1,), ((1,),), ([1],)):
            self.expect_no_form(thing)

    def test_no_row_at_all(self):
        self.expect_no_form([])

    def test_rows_that_are_no_lists(self):
        for row in (1, None, True, "1", (1,), "+", ""):
            self.expect_no_form([row])
        self.expect_no_form([[1, 0], (0, 1)])
        self.expect_no_form([(1, 0), [0, 1]])
        self.expect_no_form(([1, 0], [0, 1]))
        self.expect_no_form([[1, 0], "01"])
        self.expect_no_form([[1, 0], None])

    def test_rows_too_short_or_too_long(self):
        for n in SIZES:
            for r in (0, n - 1):
                short, long = diagonal(n), diagonal(n)
                short[r].pop()
                long[r].append(0)
                self.expect_no_form(short)
                self.expect_no_form(long)
            self.expect_no_form(diagonal(n) + [[0] * n])
            if n > 1:
                self.expect_no_form(diagonal(n)[:-1])
        self.expect_no_form([[]])
        self.expect_no_form([[], []])

    def test_thirteen_rows_and_more(self):
        for n in (13, 14, 40):
            self.expect_no_form(diagonal(n))
            self.expect_no_form([[0] * n for row in range(n)])

    def test_other_things_in_the_place_of_a_sign(self):
        others = (2, -2, 3, 10 ** 29, -(10 ** 29), True, False, None, "", "0", "1", "+", (), (1,), [], [1], [[1]])
        for n in SIZES:
            for other in others:
                for r, c in ((0, 0), (0, n - 1), (n - 1, 0), (n - 1, n - 1)):
                    table = diagonal(n)
                    table[r][c] = other
                    self.expect_no_form(table)

    def test_truths_alone_in_a_table(self):
        self.expect_no_form([[True]])
        self.expect_no_form([[True, False], [False, True]])

    def test_form_goes_ahead_of_an_earlier_fault(self):
        self.expect_no_form([[1, 1], [0, 2]])
        self.expect_no_form([[0, 0], [0, None]])
        self.expect_no_form([[-1, 0], [0, True]])
        self.expect_no_form([[-1, 0], [0]])
        self.expect_no_form([[-1, 0], (0, 1)])

    def test_deep_and_long_things(self):
        deep = []
        for level in range(9000):
            deep = [deep]
        for thing in (deep, [[deep]], [0] * 9999, [[0] * 9998], [[]] * 9999):
            self.assertIs(is_state(thing), False)
            self.assertIsNone(signs_fault(thing))


class Keeping(Case):
    def test_what_is_done_later_to_a_table_changes_no_other_answer(self):
        table = diagonal(3)
        self.assertIs(is_state(table), True)
        table[0][0] = 0
        self.expect_fault(table, (0, 2))
        self.expect_state(diagonal(3))
        table[0][0] = 1
        self.expect_state(table)


if __name__ == "__main__":
    unittest.main()
