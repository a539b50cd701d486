"""[22] The five ways: which amounts between two steps grow, and what is no way."""

import unittest

from floatforge.ways import Away, Downward, Even, Inward, Upward, Way, way_of
from tests.helpers import NOT_WAYS, WAYS, PromiseTest

CLASSES = (Even, Away, Inward, Upward, Downward)


def grows_by_promise(name, odd, side, below):
    """What is told of each way, as a table of its own."""
    return {
        "even": side == 3 or (side == 2 and odd),
        "away": side in (2, 3),
        "in": False,
        "up": not below,
        "down": below,
    }[name]


class Ways(PromiseTest):
    def test_each_is_a_class_of_its_own_under_way(self):
        for one in CLASSES:
            self.assertEqual(one.__bases__, (Way,))
            self.assertEqual([issubclass(one, other) for other in CLASSES], [one is other for other in CLASSES])

    def test_made_without_arguments(self):
        self.assertIsInstance(Way(), Way)
        for one in CLASSES:
            self.assertIsInstance(one(), one)

    def test_by_their_texts(self):
        for name, one in zip(WAYS, CLASSES):
            with self.subTest(name=name):
                self.assertIs(type(way_of(name)), one)

    def test_each_way_at_each_side(self):
        for name in WAYS:
            for odd in (False, True):
                for side in (1, 2, 3):
                    for below in (False, True):
                        with self.subTest(name=name, odd=odd, side=side, below=below):
                            answer = way_of(name).grows(odd, side, below)
                            self.assertIs(answer, grows_by_promise(name, odd, side, below))

    def test_known_answers(self):
        self.assertIs(Even().grows(False, 2, False), False)
        self.assertIs(Even().grows(True, 2, True), True)
        self.assertIs(Even().grows(True, 1, False), False)
        self.assertIs(Even().grows(False, 3, False), True)
        self.assertIs(Away().grows(False, 2, True), True)
        self.assertIs(Away().grows(True, 1, True), False)
        self.assertIs(Inward().grows(True, 3, False), False)
        self.assertIs(Upward().grows(False, 1, False), True)
        self.assertIs(Upward().grows(True, 3, True), False)
        self.assertIs(Downward().grows(False, 1, True), True)
        self.assertIs(Downward().grows(True, 3, False), False)

    def test_what_is_no_way_is_refused(self):
        for wrong in NOT_WAYS + CLASSES + (Way, Way(), Even(), Downward()):
            self.assert_refused("NoWay", way_of, wrong)

    def test_the_classes_names_are_no_ways(self):
        for wrong in ("Even", "Away", "Inward", "Upward", "Downward", "In", "Up", "Down", "AWAY", "ups", "downs", "inn"):
            self.assert_refused("NoWay", way_of, wrong)


if __name__ == "__main__":
    unittest.main()
