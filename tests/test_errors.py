import unittest

from loopgyre import errors

REFUSALS = ("NoState", "NoSquare", "NoTurn", "Unlike", "NoRoad", "NoSize", "NoText", "NoName")


class Refusals(unittest.TestCase):
    def test_base_stands_straight_under_value_error(self):
        self.assertEqual(errors.GyreError.__bases__, (ValueError,))

    def test_each_stands_straight_under_the_base(self):
        for name in REFUSALS:
            with self.subTest(name):
                refusal = getattr(errors, name)
                self.assertEqual(refusal.__name__, name)
                self.assertEqual(refusal.__bases__, (errors.GyreError,))

    def test_none_is_taken_for_another(self):
        for name in REFUSALS:
            for other in REFUSALS:
                with self.subTest(name=name, other=other):
                    under = issubclass(getattr(errors, name), getattr(errors, other))
                    self.assertEqual(under, name == other)

    def test_each_can_be_raised_and_taken_as_base_and_as_value_error(self):
        for name in REFUSALS:
            refusal = getattr(errors, name)
            for base in (refusal, errors.GyreError, ValueError):
                with self.subTest(name=name, base=base):
                    with self.assertRaises(base):
                        raise refusal("words")

    def test_no_state_tells_its_spot(self):
        for spot in (None, (0, 0), (3, 11)):
            with self.subTest(spot=spot):
                self.assertEqual(errors.NoState(spot).spot, spot)
                with self.assertRaises(errors.GyreError) as caught:
                    raise errors.NoState(spot)
                self.assertEqual(caught.exception.spot, spot)

    def test_two_refusals_know_nothing_of_one_another(self):
        one = errors.NoState((1, 2))
        other = errors.NoState(None)
        self.assertEqual(one.spot, (1, 2))
        self.assertIsNone(other.spot)

    def test_no_state_wants_a_spot(self):
        with self.assertRaises(TypeError):
            errors.NoState()


if __name__ == "__main__":
    unittest.main()
