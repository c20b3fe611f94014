"""Point 4, and points 7 and 9 as far as they tell numbers."""

import unittest
from fractions import Fraction

from ditchturn.bounds import before, behind, foe_hours, most, wait

FIELDS = range(1, 25)


def unit_sum(first, last):
    """1/first + .. + 1/last, added fraction by fraction."""
    result = Fraction(0)
    for number in range(first, last + 1):
        result += Fraction(1, number)
    return result


class BoundsCase(unittest.TestCase):
    def assert_part(self, told, fraction):
        """What is told is just the part of that Fraction, a tuple of two true integers."""
        self.assertIs(type(told), tuple)
        self.assertEqual([type(number) for number in told], [int, int])
        self.assertEqual(told, (fraction.numerator, fraction.denominator))


class BehindBeforeMostTest(BoundsCase):
    def test_examples(self):
        self.assertEqual([behind(many) for many in (1, 2, 3, 4)], [(0, 1), (1, 2), (5, 6), (13, 12)])
        self.assertEqual([before(many) for many in (1, 2, 3, 24)], [(0, 1), (1, 2), (2, 3), (23, 24)])
        self.assertEqual([most(4, k) for k in (1, 2, 3, 4)], [(13, 12), (7, 6), (3, 4), (0, 1)])

    def test_behind(self):
        for many in FIELDS:
            self.assert_part(behind(many), unit_sum(2, many))

    def test_before(self):
        for many in FIELDS:
            self.assert_part(before(many), 1 - Fraction(1, many))

    def test_most(self):
        for many in FIELDS:
            for k in range(1, many + 1):
                self.assert_part(most(many, k), k * unit_sum(k + 1, many))

    def test_nought_for_one_field_and_where_k_is_n(self):
        self.assertEqual((behind(1), before(1), most(1, 1)), ((0, 1), (0, 1), (0, 1)))
        for many in FIELDS:
            self.assertEqual(most(many, many), (0, 1))

    def test_most_of_n_and_1_is_behind_of_n(self):
        for many in FIELDS:
            self.assertEqual(most(many, 1), behind(many))

    def test_somewhat_more_fields_raise_no_error(self):
        self.assert_part(behind(30), unit_sum(2, 30))
        self.assert_part(before(30), Fraction(29, 30))
        self.assert_part(most(30, 7), 7 * unit_sum(8, 30))


class WaitTest(unittest.TestCase):
    def shares(self, many):
        """Shares above nought, up to one, among them some that divide the bounds evenly."""
        found = {Fraction(top, bottom) for bottom in range(1, 13) for top in range(1, bottom + 1)}
        bounds = unit_sum(2, many) + 1 - Fraction(1, many)
        for hours in range(1, 8):
            for off in (Fraction(0), Fraction(1, 10 ** 45), Fraction(-1, 10 ** 45)):
                share = bounds / hours + off
                if 0 < share <= 1:
                    found.add(share)
        found.add(Fraction(1, 10 ** 45))
        found.add(1 - Fraction(1, 10 ** 45))
        return sorted(found)

    def test_so_many_times_the_share_is_within_the_bounds_and_once_more_is_above(self):
        for many in FIELDS:
            bounds = unit_sum(2, many) + 1 - Fraction(1, many)
            for share in self.shares(many):
                hours = wait(many, (share.numerator, share.denominator))
                self.assertIs(type(hours), int)
                self.assertLessEqual(hours * share, bounds)
                self.assertGreater((hours + 1) * share, bounds)

    def test_examples(self):
        self.assertEqual(wait(1, (1, 1)), 0)
        self.assertEqual(wait(1, (1, 1000)), 0)
        # With two fields the bounds are one together.
        self.assertEqual(wait(2, (1, 1)), 1)
        self.assertEqual(wait(2, (1, 2)), 2)
        self.assertEqual(wait(2, (2, 3)), 1)
        self.assertEqual(wait(2, (1, 10 ** 50)), 10 ** 50)
        self.assertEqual(wait(3, (1, 2)), 3)
        self.assertEqual(wait(3, (1, 1)), 1)


class FoeHoursTest(unittest.TestCase):
    def test_examples(self):
        self.assertEqual([foe_hours(many) for many in (2, 3, 4)], [1, 3, 5])

    def test_the_least_number_that_is_not_below_n_times_behind(self):
        for many in range(2, 25):
            hours = foe_hours(many)
            self.assertIs(type(hours), int)
            self.assertGreaterEqual(hours, many * unit_sum(2, many))
            self.assertLess(hours - 1, many * unit_sum(2, many))


if __name__ == "__main__":
    unittest.main()
