"""The five forms of a state beside one another."""

import copy
import inspect
import itertools
import random
import unittest

from loopgyre.arrows import arrows_of, state_of_arrows
from loopgyre.errors import NoState
from loopgyre.heights import heights_of, state_of_heights
from loopgyre.sides import sides_of, state_of_sides
from loopgyre.signs import is_state
from loopgyre.triangles import state_of_triangle, triangle_of
from samples import SIZES, all_states, some_states, spoil


def signs_of(state):
    return copy.deepcopy(state)


FORMS = {
    "signs": (signs_of, signs_of),
    "heights": (heights_of, state_of_heights),
    "arrows": (arrows_of, state_of_arrows),
    "sides": (sides_of, state_of_sides),
    "triangle": (triangle_of, state_of_triangle),
}


def other_forms():
    return {name: pair for name, pair in FORMS.items() if name != "signs"}


class Whole(unittest.TestCase):
    def expect_there_and_back(self, state):
        for one, other in itertools.permutations(FORMS, 2):
            of_one, from_one = FORMS[one]
            of_other, from_other = FORMS[other]
            start = of_one(state)
            there = of_other(from_one(start))
            self.assertEqual(there, of_other(state), (one, other))
            self.assertEqual(of_one(from_other(there)), start, (one, other))
            self.assertEqual(from_other(there), state, (one, other))

    def test_from_each_to_each_other_and_back(self):
        for n in SIZES:
            for state in some_states(n)[:8]:
                self.expect_there_and_back(state)

    def test_all_states_of_small_sizes(self):
        for n in range(1, 5):
            for state in all_states(n):
                self.expect_there_and_back(state)

    def test_round_all_forms_in_any_order(self):
        state = some_states(6)[-1]
        for order in itertools.permutations(FORMS):
            carried = state
            for name in order:
                of_state, to_state = FORMS[name]
                carried = to_state(of_state(carried))
            self.assertEqual(carried, state)

    def test_two_states_are_told_apart_by_each_form(self):
        for n in range(1, 5):
            states = all_states(n)
            for name, (of_state, to_state) in FORMS.items():
                self.assertEqual(len({repr(of_state(state)) for state in states}), len(states), name)

    def test_what_is_taken_is_a_state(self):
        for n in SIZES:
            for state in some_states(n):
                for name, (of_state, to_state) in FORMS.items():
                    self.assertIs(is_state(to_state(of_state(state))), True, name)

    def test_no_form_is_taken_for_another(self):
        for n in SIZES:
            state = some_states(n)[-1]
            for one, other in itertools.permutations(other_forms(), 2):
                with self.subTest(n=n, one=one, other=other), self.assertRaises(NoState):
                    FORMS[other][1](FORMS[one][0](state))
            for name, (of_state, to_state) in other_forms().items():
                with self.subTest(n=n, name=name), self.assertRaises(NoState):
                    to_state(state)

    def test_a_state_a_bit_beyond_the_bounds_is_told_all_the_same(self):
        state = [[1 if r + c == 12 else 0 for c in range(13)] for r in range(13)]
        self.assertEqual(heights_of(state)[6], [min(6 + j, 20 - j) for j in range(14)])
        self.assertEqual(arrows_of(state)[0][3], [1] * 10 + [-1] * 4)
        self.assertEqual(sides_of(state)[1][0], [(c + 1) % 2 for c in range(13)])
        self.assertEqual(triangle_of(state)[2], [10, 11, 12])


class Interface(unittest.TestCase):
    def test_names_and_arguments(self):
        for name, (of_state, to_state) in other_forms().items():
            self.assertEqual((of_state.__name__, to_state.__name__), (name + "_of", "state_of_" + name))
            self.assertEqual(str(inspect.signature(of_state)), "(state)")
            self.assertEqual(str(inspect.signature(to_state)), "(thing)")


class AnyThing(unittest.TestCase):
    def random_thing(self, chance, depth):
        kind = chance.randrange(8 if depth > 0 else 4)
        if kind == 0:
            return chance.choice((True, False, None, "", "0", "1 0", "+"))
        if kind < 4:
            return chance.choice((0, 1, -1, 2, chance.randint(-3, 3), chance.randint(-10 ** 29, 10 ** 29)))
        parts = [self.random_thing(chance, depth - 1) for part in range(chance.randrange(4))]
        return parts if kind < 7 else tuple(parts)

    def test_each_thing_is_refused_or_is_the_form_of_a_state(self):
        chance = random.Random(5)
        for turn in range(20000):
            thing = self.random_thing(chance, 3)
            before = repr(thing)
            for name, (of_state, to_state) in other_forms().items():
                try:
                    state = to_state(thing)
                except NoState as refusal:
                    self.assertTrue(refusal.spot is None or type(refusal.spot) is tuple)
                else:
                    self.assertIs(is_state(state), True)
                    self.assertEqual(repr(of_state(state)), before)
                self.assertEqual(repr(thing), before)


class Keeping(unittest.TestCase):
    def test_a_refusal_changes_no_later_answer(self):
        for n in SIZES:
            state = some_states(n)[-1]
            for name, (of_state, to_state) in other_forms().items():
                form = of_state(state)
                wrong = of_state(state)
                spoil(wrong)
                with self.assertRaises(NoState):
                    to_state(wrong)
                self.assertEqual(to_state(form), state)
                self.assertEqual(of_state(state), form)

    def test_what_is_done_later_to_what_was_handed_in_changes_nothing(self):
        for n in SIZES:
            for state in some_states(n)[:6]:
                for name, (of_state, to_state) in other_forms().items():
                    handed = copy.deepcopy(state)
                    form = of_state(handed)
                    kept = copy.deepcopy(form)
                    spoil(handed)
                    self.assertEqual(form, kept)
                    told = to_state(form)
                    spoil(form)
                    self.assertEqual(told, state)

    def test_two_answers_share_no_list(self):
        for n in SIZES:
            state = some_states(n)[-1]
            for name, (of_state, to_state) in other_forms().items():
                first, second = of_state(state), of_state(state)
                kept = copy.deepcopy(second)
                spoil(first)
                self.assertEqual(second, kept)
                one, other = to_state(kept), to_state(kept)
                spoil(one)
                self.assertEqual(other, state)


if __name__ == "__main__":
    unittest.main()
