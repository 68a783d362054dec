import unittest

from aheadofholes import errors

VALUES = {
    "NoText": [], "NoEdition": [], "NotNext": ["number"], "NotOut": ["key"], "Told": ["name"], "Unheard": ["name"],
    "NotKept": ["name"], "Loose": ["number"], "Holed": ["number", "step"], "Answered": ["number", "key"],
    "Stray": ["number"], "Forked": ["key"], "NotBook": ["number"], "NoLine": ["line"], "NoRow": ["number"],
}
SAMPLES = {"number": 3, "step": 5, "key": ("l", 2), "name": "l.a", "line": "who what"}


class Errors(unittest.TestCase):
    def test_hole_error_is_straight_under_value_error(self):
        self.assertEqual(errors.HoleError.__bases__, (ValueError,))

    def test_each_refusal_is_straight_under_hole_error(self):
        for name in VALUES:
            self.assertEqual(getattr(errors, name).__bases__, (errors.HoleError,), name)

    def test_no_other_refusals(self):
        classes = [name for name, thing in vars(errors).items() if isinstance(thing, type)]
        self.assertEqual(sorted(classes), sorted(list(VALUES) + ["HoleError"]))

    def test_values_are_told_by_place_and_by_name(self):
        for name, values in VALUES.items():
            refusal = getattr(errors, name)
            by_place = refusal(*[SAMPLES[value] for value in values])
            by_name = refusal(**{value: SAMPLES[value] for value in values})
            for told in (by_place, by_name):
                self.assertEqual(vars(told), {value: SAMPLES[value] for value in values}, name)

    def test_each_is_caught_as_a_value_error(self):
        for name, values in VALUES.items():
            with self.assertRaises(ValueError):
                raise getattr(errors, name)(*[SAMPLES[value] for value in values])


if __name__ == "__main__":
    unittest.main()
