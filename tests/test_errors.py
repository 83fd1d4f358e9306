"""Point 2 and the interface of flagroll/errors.py: the refusals and how they stand."""

import unittest

from flagroll import errors

NAMES = [
    "NoSalt", "NoFace", "Twice", "BadShare", "TooMuch", "NoWord", "NoGroup", "BadThings", "NoLine",
    "BadStage", "BadOutcome", "NoSwitch", "Ringed", "NoRule", "BadDeed", "NoHold", "NoMoment",
    "Unlike", "BadLetter", "BadTree", "NoMachine",
]


def refusal_classes():
    return {name: getattr(errors, name) for name in NAMES}


class RefusalsTest(unittest.TestCase):
    def test_all_refusals_are_there_under_their_names(self):
        self.assertEqual(len(set(NAMES)), 21)
        for name, refusal in refusal_classes().items():
            self.assertIsInstance(refusal, type, name)
            self.assertEqual(refusal.__name__, name)

    def test_the_base_stands_under_value_error(self):
        self.assertTrue(issubclass(errors.RollError, ValueError))
        self.assertIsNot(errors.RollError, ValueError)

    def test_each_refusal_stands_under_the_base(self):
        for name, refusal in refusal_classes().items():
            self.assertTrue(issubclass(refusal, errors.RollError), name)
            self.assertTrue(issubclass(refusal, ValueError), name)
            self.assertFalse(issubclass(errors.RollError, refusal), name)

    def test_each_refusal_stands_straight_under_the_base(self):
        for name, refusal in refusal_classes().items():
            self.assertEqual(refusal.__bases__, (errors.RollError,), name)

    def test_no_refusal_stands_under_another(self):
        for name, refusal in refusal_classes().items():
            for other_name, other in refusal_classes().items():
                if name != other_name:
                    self.assertFalse(issubclass(refusal, other), (name, other_name))

    def test_each_refusal_is_taken_by_its_name_and_by_the_bases(self):
        for name, refusal in refusal_classes().items():
            for taken in (refusal, errors.RollError, ValueError):
                with self.assertRaises(taken):
                    raise refusal(("one", "two") if name == "Ringed" else "words")


class RingedTest(unittest.TestCase):
    def test_ring_is_a_field(self):
        for ring in (("one",), ("one", "two"), ("c", "a", "b")):
            self.assertEqual(errors.Ringed(ring).ring, ring)

    def test_ring_is_there_when_it_is_taken(self):
        with self.assertRaises(errors.RollError) as caught:
            raise errors.Ringed(("one", "two"))
        self.assertEqual(caught.exception.ring, ("one", "two"))
        self.assertIsInstance(caught.exception.ring, tuple)

    def test_each_object_has_its_own_ring(self):
        first = errors.Ringed(("one",))
        second = errors.Ringed(("two",))
        self.assertEqual((first.ring, second.ring), (("one",), ("two",)))


if __name__ == "__main__":
    unittest.main()
