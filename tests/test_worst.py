"""Point 16: the worst ditch."""

import unittest
from fractions import Fraction

from ditchturn.bounds import behind
from ditchturn.ditch import Ditch, worst
from ditchturn.lags import keeps
from ditch_help import ditch_of, redone, told


class WorstTest(unittest.TestCase):
    def test_one_lag_is_just_behind_and_none_above(self):
        for many in range(2, 13):
            ditch = worst(many)
            self.assertIs(ditch.__class__, Ditch)
            self.assertEqual(len(ditch.fields()), many)
            self.assertIn(behind(many), ditch.lags())
            self.assertEqual(max(Fraction(*lag) for lag in ditch.lags()), Fraction(*behind(many)))
            self.assertTrue(keeps(ditch.lags()))

    def test_alike_each_time(self):
        for many in range(2, 13):
            self.assertEqual(told(worst(many)), told(worst(many)))
            self.assertEqual(redone(worst(many)), [])

    def test_two_of_them_are_apart(self):
        for many in (2, 7, 12):
            ditch, other = worst(many), worst(many)
            known = told(other)
            ditch.hour()
            ditch.settle("zoe")
            self.assertEqual(told(other), known)
            self.assertEqual(told(worst(many)), known)
            other.back()
            self.assertEqual(told(worst(many)), known)

    def test_its_log_leads_to_the_same(self):
        for many in range(2, 13):
            ditch = worst(many)
            self.assertEqual(told(ditch_of(ditch.fields()[0], *ditch.log())), told(ditch))

    def test_somewhat_beyond(self):
        self.assertEqual(worst(1).lags(), [(0, 1)])
        self.assertIn(behind(13), worst(13).lags())


if __name__ == "__main__":
    unittest.main()
