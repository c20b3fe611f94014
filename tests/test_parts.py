"""Points 1 and 2: parts and what is reckoned with them."""

import math
import unittest
from fractions import Fraction

from ditchturn.parts import (
    below, ceil_of, floor_of, lowest, minus, over, plus, times, total,
)

HUGE = 10 ** 43 + 7
FRACTIONS = [
    Fraction(top, bottom)
    for top, bottom in [
        (0, 1), (1, 1), (-1, 1), (2, 1), (-2, 1), (7, 1), (-7, 1),
        (1, 2), (-1, 2), (1, 3), (-1, 3), (2, 3), (-2, 3), (1, 6), (-1, 6), (5, 6),
        (3, 4), (-3, 4), (7, 12), (-7, 12), (11, 10), (-11, 10), (99, 100), (101, 100),
        (HUGE, 1), (-HUGE, 1), (1, HUGE), (-1, HUGE), (HUGE, HUGE - 1), (HUGE, HUGE + 1),
        (-HUGE, HUGE + 1), (6 * HUGE, 5 ** 61), (-(3 ** 90), 2 ** 150), (2 ** 150, 3 ** 90),
        (10 ** 400 + 1, 10 ** 399 + 3), (-(10 ** 400) - 1, 10 ** 399 + 3),
    ]
]


def part(fraction):
    """The part that a Fraction is."""
    return (fraction.numerator, fraction.denominator)


class PartsCase(unittest.TestCase):
    def assert_part(self, told, fraction):
        """What is told is just the part of that Fraction, a tuple of two true integers."""
        self.assertIs(type(told), tuple)
        self.assertEqual([type(number) for number in told], [int, int])
        self.assertEqual(told, part(fraction))
        self.assertGreaterEqual(told[1], 1)
        self.assertEqual(math.gcd(told[0], told[1]), 1)


class LowestTest(PartsCase):
    def test_examples(self):
        self.assertEqual(lowest(6, 8), (3, 4))
        self.assertEqual(lowest(-6, 8), (-3, 4))
        self.assertEqual(lowest(3, 4), (3, 4))
        self.assertEqual(lowest(8, 4), (2, 1))
        self.assertEqual(lowest(-8, 4), (-2, 1))

    def test_nought_is_nought_over_one(self):
        for bottom in (1, 2, 3, 60, HUGE):
            self.assert_part(lowest(0, bottom), Fraction(0))
            self.assertEqual(lowest(0, bottom), (0, 1))

    def test_all_small_numbers(self):
        for top in range(-60, 61):
            for bottom in range(1, 61):
                self.assert_part(lowest(top, bottom), Fraction(top, bottom))

    def test_large_numbers(self):
        for top in (HUGE, -HUGE, 6 * HUGE, -6 * HUGE, 2 ** 500 * 3, -(2 ** 500) * 3):
            for bottom in (1, HUGE, 4 * HUGE, 9 * HUGE * HUGE, 2 ** 499 * 9, 10 ** 45):
                self.assert_part(lowest(top, bottom), Fraction(top, bottom))

    def test_numbers_of_thousands_of_figures(self):
        shared = 7 ** 2000
        self.assertEqual(lowest(shared * 10, shared * 21), (10, 21))
        self.assertEqual(lowest(-shared, shared), (-1, 1))


class ReckoningTest(PartsCase):
    def test_plus_minus_and_times_crosswise(self):
        for a in FRACTIONS:
            for b in FRACTIONS:
                self.assert_part(plus(part(a), part(b)), a + b)
                self.assert_part(minus(part(a), part(b)), a - b)
                self.assert_part(times(part(a), part(b)), a * b)

    def test_plus_and_minus_of_all_small_parts(self):
        small = sorted({Fraction(top, bottom) for top in range(-5, 6) for bottom in range(1, 13)})
        for a in small:
            for b in small:
                self.assert_part(plus(part(a), part(b)), a + b)
                self.assert_part(minus(part(a), part(b)), a - b)

    def test_over_crosswise(self):
        for a in FRACTIONS:
            for b in FRACTIONS:
                if b > 0:
                    self.assert_part(over(part(a), part(b)), a / b)

    def test_what_comes_to_nought(self):
        self.assertEqual(plus((3, 4), (-3, 4)), (0, 1))
        self.assertEqual(minus((3, 4), (3, 4)), (0, 1))
        self.assertEqual(times((0, 1), (-3, 4)), (0, 1))
        self.assertEqual(over((0, 1), (3, 4)), (0, 1))

    def test_examples(self):
        self.assertEqual(plus((1, 6), (1, 3)), (1, 2))
        self.assertEqual(minus((1, 6), (2, 3)), (-1, 2))
        self.assertEqual(times((-2, 3), (3, 4)), (-1, 2))
        self.assertEqual(over((-2, 3), (4, 3)), (-1, 2))


class TotalTest(PartsCase):
    def test_an_empty_list_sums_up_to_nought(self):
        self.assert_part(total([]), Fraction(0))

    def test_one_part_is_its_own_sum(self):
        for a in FRACTIONS:
            self.assert_part(total([part(a)]), a)

    def test_all_the_samples(self):
        self.assert_part(total([part(a) for a in FRACTIONS]), sum(FRACTIONS))
        self.assertEqual(total([(1, 2), (1, 3), (1, 6)]), (1, 1))
        self.assertEqual(total([(1, 2), (-1, 3), (-1, 6)]), (0, 1))

    def test_long_lists(self):
        units = [Fraction((-1) ** (number // 3), number) for number in range(1, 1501)]
        self.assert_part(total([part(a) for a in units]), sum(units))
        self.assertEqual(total([(1, 3000)] * 3000), (1, 1))
        self.assertEqual(total([(HUGE, 1)] * 2000), (2000 * HUGE, 1))

    def test_the_handed_list_is_unchanged(self):
        for row in ([], [(1, 2)], [(1, 2), (1, 2), (-1, 3)]):
            handed = list(row)
            total(handed)
            self.assertEqual(handed, row)

    def test_the_handed_list_is_not_kept(self):
        row = [(1, 2), (1, 3)]
        self.assertEqual(total(row), (5, 6))
        row.append((1, 6))
        self.assertEqual(total(row), (1, 1))
        row.clear()
        self.assertEqual(total(row), (0, 1))


class BelowTest(unittest.TestCase):
    def test_crosswise(self):
        for a in FRACTIONS:
            for b in FRACTIONS:
                self.assertIs(below(part(a), part(b)), a < b)

    def test_parts_that_are_alike(self):
        for a in FRACTIONS:
            self.assertIs(below(part(a), part(a)), False)

    def test_examples(self):
        self.assertIs(below((1, 3), (1, 2)), True)
        self.assertIs(below((1, 2), (1, 3)), False)
        self.assertIs(below((-1, 2), (-1, 3)), True)
        self.assertIs(below((-1, 2), (0, 1)), True)
        self.assertIs(below((0, 1), (-1, 2)), False)
        self.assertIs(below((HUGE - 1, HUGE), (HUGE, HUGE + 1)), True)


class FloorAndCeilTest(unittest.TestCase):
    def test_examples(self):
        for a, floor, ceil in [
            ((7, 2), 3, 4), ((-7, 2), -4, -3), ((1, 2), 0, 1), ((-1, 2), -1, 0),
            ((0, 1), 0, 0), ((3, 1), 3, 3), ((-3, 1), -3, -3),
        ]:
            self.assertEqual((floor_of(a), ceil_of(a)), (floor, ceil))

    def test_samples(self):
        for a in FRACTIONS:
            self.assertEqual(floor_of(part(a)), math.floor(a))
            self.assertEqual(ceil_of(part(a)), math.ceil(a))

    def test_small_parts_on_both_sides_of_nought(self):
        for top in range(-40, 41):
            for bottom in range(1, 9):
                a = Fraction(top, bottom)
                floor, ceil = floor_of(part(a)), ceil_of(part(a))
                self.assertEqual((type(floor), type(ceil)), (int, int))
                self.assertTrue(floor <= a < floor + 1)
                self.assertTrue(ceil - 1 < a <= ceil)


if __name__ == "__main__":
    unittest.main()
