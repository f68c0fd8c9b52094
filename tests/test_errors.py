"""[4] and the interface of mostwise/errors.py."""

import unittest

from mostwise import errors
from odd import no_texts

FIELDS = {
    "NoStatement": "found", "NoRow": "found", "NoThing": "found", "Doubled": "found",
    "NoLabel": "found", "NoFact": "found", "NoBeat": "found", "TooMany": "count",
    "Ring": "chain", "StillOpen": "found", "Decided": "found", "NoStand": "found",
}


def refusals():
    return [getattr(errors, name) for name in list(FIELDS) + ["NoTurn"]]


class ErrorsTest(unittest.TestCase):
    def test_most_error_stands_straight_under_value_error(self):
        self.assertEqual(errors.MostError.__bases__, (ValueError,))

    def test_each_refusal_stands_straight_under_most_error(self):
        for refusal in refusals():
            self.assertEqual(refusal.__bases__, (errors.MostError,), refusal)

    def test_the_thirteen_are_unlike_and_none_stands_under_another(self):
        self.assertEqual(len(set(refusals())), 13)
        for one in refusals():
            for other in refusals():
                self.assertEqual(issubclass(one, other), one is other, (one, other))

    def test_there_are_no_other_refusals(self):
        told = [value for value in vars(errors).values()
                if isinstance(value, type) and issubclass(value, errors.MostError)]
        self.assertEqual(set(told), set(refusals()) | {errors.MostError})

    def test_each_bears_its_own_name(self):
        for name in list(FIELDS) + ["NoTurn", "MostError"]:
            self.assertEqual(getattr(errors, name).__name__, name)

    def test_each_keeps_its_value_in_its_one_field(self):
        for name, field in FIELDS.items():
            for value in ["rain", "", 61, ("a", "b"), ["a", "b"], None]:
                error = getattr(errors, name)(value)
                self.assertEqual(vars(error), {field: value}, name)

    def test_the_field_is_the_very_thing_of_whatever_kind(self):
        for name, field in FIELDS.items():
            for value in no_texts():
                if name == "Ring" and isinstance(value, list):
                    continue
                self.assertIs(getattr(getattr(errors, name)(value), field), value, name)

    def test_each_is_made_with_just_one_value(self):
        for name in FIELDS:
            self.assertRaises(TypeError, getattr(errors, name))
            self.assertRaises(TypeError, getattr(errors, name), "a", "b")

    def test_no_turn_is_made_without_a_value_and_has_no_field(self):
        self.assertEqual(vars(errors.NoTurn()), {})

    def test_a_ring_keeps_its_list_when_that_is_changed_behind(self):
        chain = ["a", "b"]
        error = errors.Ring(chain)
        chain.append("c")
        self.assertEqual(error.chain, ["a", "b"])
        error.chain.append("d")
        self.assertEqual(chain, ["a", "b", "c"])

    def test_two_of_a_class_keep_their_own_values(self):
        one, other = errors.NoStatement("a"), errors.NoStatement("b")
        self.assertEqual((one.found, other.found), ("a", "b"))

    def test_each_is_raised_and_taken_by_its_own_name_and_by_the_base(self):
        made = [getattr(errors, name)("a") for name in FIELDS] + [errors.NoTurn()]
        for error in made:
            for taken in (error.__class__, errors.MostError, ValueError):
                with self.assertRaises(taken) as caught:
                    raise error
                self.assertIs(caught.exception, error)


if __name__ == "__main__":
    unittest.main()
