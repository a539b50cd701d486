"""[13] to [15] Amounts: their height, told in steps, and against exact numbers."""

import unittest
from fractions import Fraction

from floatforge.amounts import against, height_of, in_steps
from floatforge.exacts import exact
from tests.helpers import PromiseTest, fraction_of, shown

# Two thousand figures, the greatest that is promised.
GREAT = 10 ** 2000 - 1
SHIFTED = 2 ** 6643

SMALL_AMOUNTS = [(n, k, d) for n in range(-9, 10) for k in (-3, -1, 0, 1, 4) for d in (1, 2, 3, 4, 5, 6, 7, 8, 12)]
GREAT_AMOUNTS = [(n, k, d)
                 for n in (GREAT, -GREAT, SHIFTED, -SHIFTED, SHIFTED - 1, SHIFTED + 1, 1, -1, 3)
                 for k in (-9000, -1, 0, 1, 9000)
                 for d in (1, 3, 2 ** 64, GREAT, GREAT - 1, SHIFTED, SHIFTED + 1)]


def amount(n, k, d):
    """An amount as a Fraction."""
    return fraction_of((n, k)) / d


def power_of_two(h):
    return fraction_of((1, h))


class Height(PromiseTest):
    def test_known_amounts(self):
        told = (
            ((1, 0, 1), 0), ((2, 0, 1), 1), ((3, 0, 1), 1), ((4, 0, 1), 2), ((7, 0, 1), 2), ((8, 0, 1), 3),
            ((1, 5, 1), 5), ((1, -5, 1), -5), ((3, -1, 1), 0), ((1, 0, 2), -1), ((1, 0, 3), -2), ((2, 0, 3), -1),
            ((4, 0, 3), 0), ((5, 0, 3), 0), ((6, 0, 3), 1), ((3, 0, 3), 0), ((7, 0, 8), -1), ((9, 0, 8), 0),
            ((-1, 0, 1), 0), ((-3, 0, 1), 1), ((-1, 0, 3), -2), ((-7, 2, 8), 1), ((1, 9000, 1), 9000), ((1, -9000, 1), -9000),
        )
        for args, height in told:
            with self.subTest(args=args):
                self.assertEqual(height_of(*args), height)

    def test_just_a_power_of_two_and_beside(self):
        for h in range(-70, 71):
            for d in (1, 2, 3, 7, 10, 2 ** 20, 2 ** 20 + 1):
                for scale in (64, 6001):
                    # n over d times 2 to the power -scale is just 2 to the power h.
                    n = d * 2 ** (h + 70)
                    self.assertEqual(height_of(n, -70, d), h)
                    self.assertEqual(height_of(-n, -70, d), h)
                    near = n << scale
                    self.assertEqual(height_of(near, -70 - scale, d), h)
                    self.assertEqual(height_of(near + 1, -70 - scale, d), h)
                    self.assertEqual(height_of(near - 1, -70 - scale, d), h - 1)
                    self.assertEqual(height_of(1 - near, -70 - scale, d), h - 1)

    def test_the_size_lies_between_the_powers(self):
        for args in SMALL_AMOUNTS + GREAT_AMOUNTS:
            if args[0] != 0:
                height = height_of(*args)
                self.assert_whole(height)
                size = abs(amount(*args))
                self.assertTrue(power_of_two(height) <= size < power_of_two(height + 1), shown(args))

    def test_nought_is_refused(self):
        for k in (-9000, -1, 0, 1, 9000):
            for d in (1, 2, 3, GREAT):
                self.assert_refused("NoNumber", height_of, 0, k, d)


class Steps(PromiseTest):
    def test_known_amounts(self):
        told = (
            ((0, 0, 1, 0), (0, 0)), ((0, 5, 3, -7), (0, 0)), ((5, 0, 1, 0), (5, 0)), ((5, 0, 1, 1), (2, 2)),
            ((4, 0, 1, 1), (2, 0)), ((5, 0, 1, 2), (1, 1)), ((6, 0, 1, 2), (1, 2)), ((7, 0, 1, 2), (1, 3)),
            ((8, 0, 1, 2), (2, 0)), ((1, 0, 3, 0), (0, 1)), ((2, 0, 3, 0), (0, 3)), ((1, 0, 2, 0), (0, 2)),
            ((1, 0, 3, -2), (1, 1)), ((5, 0, 3, -1), (3, 1)), ((5, 0, 3, -2), (6, 3)), ((1, 0, 1, -3), (8, 0)),
            ((-5, 0, 1, 1), (2, 2)), ((-7, 0, 1, 2), (1, 3)), ((-1, 0, 3, 0), (0, 1)), ((-4, 0, 1, 1), (2, 0)),
            ((3, 4, 2, 3), (3, 0)), ((3, -4, 2, -4), (1, 2)),
        )
        for args, place in told:
            with self.subTest(args=args):
                self.assertEqual(in_steps(*args), place)

    def test_just_m_steps_just_half_and_beside(self):
        for m in (0, 1, 2, 3, 7, 8, 2 ** 61 - 1, 2 ** 61, GREAT):
            for g in (-9000, -1082, -3, 0, 3, 963, 9000):
                for d in (1, 2, 3, 6, 2 ** 40 + 1):
                    self.check_round_a_step(m, g, d)

    def check_round_a_step(self, m, g, d):
        # In units of a fourth of a step over d, so that a unit is less than what parts the sides.
        k = g - 2
        start = 4 * m * d
        told = ((start, (m, 0)), (start + 1, (m, 1)), (start + 2 * d, (m, 2)), (start + 2 * d + 1, (m, 3)),
                (start + 4 * d - 1, (m, 3)), (start + 4 * d, (m + 1, 0)), (start + 2 * d - 1, (m, 1)))
        for n, place in told:
            self.assertEqual(in_steps(n, k, d, g), place)
            self.assertEqual(in_steps(-n, k, d, g), place)

    def test_beside_by_a_last_bit_far_off(self):
        for n, place in ((2 ** 6000 - 1, (0, 1)), (2 ** 6000, (0, 2)), (2 ** 6000 + 1, (0, 3)), (2 ** 6001 - 1, (0, 3)),
                         (2 ** 6001, (1, 0)), (2 ** 6001 + 1, (1, 1))):
            self.assertEqual(in_steps(n, -6001, 1, 0), place)
            self.assertEqual(in_steps(n, 0, 2 ** 6001, 0), place)
            self.assertEqual(in_steps(-n, 2999, 1, 9000), place)

    def test_steps_greater_than_the_amount(self):
        self.assertEqual(in_steps(1, 0, 1, 1), (0, 2))
        self.assertEqual(in_steps(1, 0, 1, 2), (0, 1))
        self.assertEqual(in_steps(1, 0, 1, 9000), (0, 1))
        self.assertEqual(in_steps(3, 0, 1, 2), (0, 3))
        self.assertEqual(in_steps(-3, -9000, 1, 9000), (0, 1))
        self.assertEqual(in_steps(GREAT, -9000, GREAT, 9000), (0, 1))

    def test_steps_far_finer_than_the_amount(self):
        self.assertEqual(in_steps(1, 9000, 1, -9000), (2 ** 18000, 0))
        self.assertEqual(in_steps(-3, 9000, 2, -9000), (3 * 2 ** 17999, 0))

    def test_all_small_and_great_amounts(self):
        for args in SMALL_AMOUNTS:
            for g in (-5, -1, 0, 1, 2, 6):
                self.check_place(args, g)
        for args in GREAT_AMOUNTS:
            for g in (-9000, -64, 0, 64, 9000):
                self.check_place(args, g)

    def check_place(self, args, g):
        place = in_steps(*args, g)
        self.assert_tuple_of_wholes(place, 2)
        steps = abs(amount(*args)) / power_of_two(g)
        whole = steps.numerator // steps.denominator
        left = steps - whole
        half = Fraction(1, 2)
        side = 0 if left == 0 else 1 if left < half else 2 if left == half else 3
        self.assertEqual(place, (whole, side), shown((args, g)))


class Against(PromiseTest):
    def test_known_amounts(self):
        told = (
            ((1, 0, 1, (1, 0)), 0), ((1, 0, 2, (1, -1)), 0), ((3, 1, 3, (1, 1)), 0), ((0, 5, 3, (0, 0)), 0),
            ((1, 0, 3, (1, -1)), -1), ((1, 0, 3, (1, -2)), 1), ((-1, 0, 3, (1, -2)), -1), ((-1, 0, 3, (-1, -2)), -1),
            ((-1, 0, 3, (-1, -1)), 1), ((0, 0, 1, (1, -9000)), -1), ((0, 0, 1, (-1, -9000)), 1), ((1, -9000, 1, (0, 0)), 1),
            ((-1, -9000, 7, (0, 0)), -1), ((1, 9000, 1, (1, 9000)), 0), ((6, 0, 4, (3, -1)), 0), ((-6, 0, 4, (-3, -1)), 0),
        )
        for args, answer in told:
            with self.subTest(args=args):
                self.assertEqual(against(*args), answer)

    def test_just_the_number_and_beside(self):
        for number in ((1, 0), (-1, 0), (3, -4), (-5, 7), (2 ** 61 - 1, 963), (1, -1082), (-GREAT, 9)):
            for d in (1, 2, 3, 12, 2 ** 64 + 1, GREAT):
                n, k = number[0] * d * 2 ** 70, number[1] - 70
                self.assertEqual(against(n, k, d, number), 0)
                self.assertEqual(against(n + 1, k, d, number), 1)
                self.assertEqual(against(n - 1, k, d, number), -1)

    def test_small_and_great_amounts(self):
        numbers = [exact(n, k) for n in (-5, -1, 0, 1, 3) for k in (-2, 0, 3)]
        self.check_all(SMALL_AMOUNTS, numbers)
        self.check_all(GREAT_AMOUNTS, [exact(n, k) for n in (-GREAT, -1, 0, 1, SHIFTED) for k in (-9000, 0, 9000)])

    def check_all(self, amounts, numbers):
        for args in amounts:
            one = amount(*args)
            for number in numbers:
                answer = against(*args, number)
                self.assert_whole(answer)
                other = fraction_of(number)
                self.assertEqual(answer, (one > other) - (one < other), shown((args, number)))


if __name__ == "__main__":
    unittest.main()
