"""[3] The classes of refusals."""

import unittest

from floatforge import errors
from tests.helpers import REFUSALS, PromiseTest


class Classes(PromiseTest):
    def test_the_base_stands_straight_under_value_error(self):
        self.assertEqual(errors.FloatError.__bases__, (ValueError,))

    def test_each_refusal_stands_straight_under_the_base(self):
        for name in REFUSALS:
            with self.subTest(name=name):
                self.assertEqual(getattr(errors, name).__bases__, (errors.FloatError,))

    def test_none_stands_under_another_one(self):
        for name in REFUSALS:
            for other in REFUSALS:
                with self.subTest(name=name, other=other):
                    self.assertEqual(issubclass(getattr(errors, name), getattr(errors, other)), name == other)

    def test_these_nine_are_all(self):
        classes = [name for name, value in vars(errors).items() if isinstance(value, type)]
        self.assertEqual(sorted(classes), sorted(REFUSALS + ("FloatError",)))

    def test_each_is_raised_and_taken_by_its_name(self):
        for name in REFUSALS:
            with self.subTest(name=name):
                refusal = getattr(errors, name)
                with self.assertRaises(refusal) as caught:
                    raise refusal("words of its own")
                self.assert_is_just(name, caught.exception)
                self.assertEqual(str(caught.exception), "words of its own")


if __name__ == "__main__":
    unittest.main()
