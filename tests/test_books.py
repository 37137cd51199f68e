import ast

from loopgyre.books import book, states
from loopgyre.errors import NoSize
from loopgyre.gyres import great_turn, mirrored
from loopgyre.links import links
from loopgyre.signs import is_state
from loopgyre.webs import mirrored_web, turned_web, webs
from samples import AskCase, all_states, by_turns, diagonal, fewest_turns, flipped, signs_between

WALKED = range(1, 6)


def states_by_turns(n):
    """All states that turns of single small squares lead to."""
    return sorted(signs_between(ast.literal_eval(heights)) for heights in fewest_turns(diagonal(n)))


class States(AskCase):
    def test_all_states_of_small_sizes(self):
        for n in range(1, 5):
            self.assertEqual(repr(states(n)), repr(sorted(all_states(n))))

    def test_all_that_turns_lead_to(self):
        for n in WALKED:
            self.assertEqual(repr(states(n)), repr(states_by_turns(n)))

    def test_each_once_and_sorted(self):
        for n in WALKED:
            told = states(n)
            self.assertIs(type(told), list)
            for one, other in zip(told, told[1:]):
                self.assertLess(one, other)
            for state in told:
                self.assertIs(is_state(state), True)
                self.assertTrue(all(by_turns(line) for line in state + list(zip(*state))))
        self.assertEqual([len(states(n)) for n in WALKED], [1, 2, 7, 42, 429])

    def test_small_sizes(self):
        self.assertEqual(states(1), [[[1]]])
        self.assertEqual(states(2), [[[0, 1], [1, 0]], [[1, 0], [0, 1]]])
        self.assertEqual(states(3), [
            [[0, 0, 1], [0, 1, 0], [1, 0, 0]],
            [[0, 0, 1], [1, 0, 0], [0, 1, 0]],
            [[0, 1, 0], [0, 0, 1], [1, 0, 0]],
            [[0, 1, 0], [1, -1, 1], [0, 1, 0]],
            [[0, 1, 0], [1, 0, 0], [0, 0, 1]],
            [[1, 0, 0], [0, 0, 1], [0, 1, 0]],
            [[1, 0, 0], [0, 1, 0], [0, 0, 1]],
        ])

    def test_first_and_last(self):
        for n in WALKED:
            told = states(n)
            self.assertEqual((told[0], told[-1]), (flipped(diagonal(n)), diagonal(n)))

    def test_no_size(self):
        self.expect_no_size(states, 5)


class Books(AskCase):
    def test_as_many_as_have_these_links(self):
        for n in range(1, 5):
            found = [links(state) for state in all_states(n)]
            self.assertEqual(repr(book(n)), repr([(web, found.count(web)) for web in webs(n)]))

    def test_as_many_as_have_these_links_in_the_greatest_size(self):
        found = [links(state) for state in states_by_turns(5)]
        self.assertEqual(repr(book(5)), repr([(web, found.count(web)) for web in webs(5)]))

    def test_kinds(self):
        for n in WALKED:
            told = book(n)
            self.assertIs(type(told), list)
            self.assertEqual(told, sorted(told))
            for pair in told:
                self.assertEqual((type(pair), len(pair)), (tuple, 2))
                self.assertEqual((type(pair[0]), type(pair[1])), (list, int))
                self.assertGreater(pair[1], 0)
            self.assertEqual([web for web, number in told], webs(n))

    def test_small_sizes(self):
        self.assertEqual(book(1), [([1, 0], 1)])
        self.assertEqual(book(2), [([1, 0, 3, 2], 1), ([3, 2, 1, 0], 1)])
        self.assertEqual(book(3), [
            ([1, 0, 3, 2, 5, 4], 2), ([1, 0, 5, 4, 3, 2], 1), ([3, 2, 1, 0, 5, 4], 1), ([5, 2, 1, 4, 3, 0], 2),
            ([5, 4, 3, 2, 1, 0], 1),
        ])

    def test_numbers_come_to_all_states(self):
        self.assertEqual([sum(number for web, number in book(n)) for n in WALKED], [1, 2, 7, 42, 429])

    def test_a_web_turned_or_mirrored_has_the_same_number(self):
        for n in WALKED:
            numbers = {tuple(web): number for web, number in book(n)}
            for web, number in book(n):
                for t in range(2 * n):
                    self.assertEqual(numbers[tuple(turned_web(web, t))], number)
                    self.assertEqual(numbers[tuple(turned_web(mirrored_web(web), t))], number)
            self.assertEqual(len(set(numbers.values())) > 1, n > 2)

    def test_great_turns_and_mirrors_lead_all_states_to_all(self):
        for n in WALKED:
            told = states(n)
            self.assertEqual(sorted(great_turn(state) for state in told), told)
            self.assertEqual(sorted(mirrored(state) for state in told), told)

    def test_no_size(self):
        self.expect_no_size(book, 5)


class Keeping(AskCase):
    def test_lists_are_the_askers_own(self):
        for n in WALKED:
            self.expect_own(states, n)
            self.expect_own(book, n)

    def test_a_refusal_changes_no_later_answer(self):
        for ask, due in ((states, [[[1]]]), (book, [([1, 0], 1)])):
            for n in (0, 6):
                self.expect_refusal(NoSize, ask, n)
                self.assertEqual(ask(1), due)


class Interface(AskCase):
    def test_arguments(self):
        for ask in (states, book):
            self.expect_arguments(ask, "(n)")
