"""[19] The marks, as whole numbers and by their names."""

import unittest

from floatforge.marks import GREAT, NEAR, POLE, SMALL, WRONG, marks_named
from tests.helpers import PromiseTest


class Marks(PromiseTest):
    def test_the_whole_numbers(self):
        self.assertEqual((WRONG, POLE, GREAT, SMALL, NEAR), (1, 2, 4, 8, 16))
        for mark in (WRONG, POLE, GREAT, SMALL, NEAR):
            self.assert_whole(mark)

    def test_known_names(self):
        told = {
            0: "clean", 1: "wrong", 2: "pole", 4: "great", 8: "small", 16: "near", 20: "great near", 24: "small near",
            3: "wrong pole", 7: "wrong pole great", 17: "wrong near", 31: "wrong pole great small near",
        }
        for marks, text in told.items():
            with self.subTest(marks=marks):
                self.assertEqual(marks_named(marks), text)

    def test_all_sums(self):
        texts = []
        for near in (0, 1):
            for small in (0, 1):
                for great in (0, 1):
                    for pole in (0, 1):
                        for wrong in (0, 1):
                            names = ["wrong"] * wrong + ["pole"] * pole + ["great"] * great + ["small"] * small + ["near"] * near
                            texts.append(" ".join(names))
        texts[0] = "clean"
        self.assertEqual(len(texts), 32)
        for marks, text in enumerate(texts):
            with self.subTest(marks=marks):
                self.assertIs(type(marks_named(marks)), str)
                self.assertEqual(marks_named(marks), text)


if __name__ == "__main__":
    unittest.main()
