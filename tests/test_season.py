"""Points 17 and 18: the windows of turns, plans around lost hours, and stretches where no plan is."""

import copy
import itertools
import random
import unittest
from fractions import Fraction

from ditchturn.season import planned, windows
from ditch_help import part
from season_help import drawn_lost, drawn_rows, may_have, must_have, some_plan, windows_by_words

HALVES = [(1, 2), (1, 2)]
THIRDS = [(1, 3), (1, 3), (1, 3)]


class SeasonCase(unittest.TestCase):
    def check_plan(self, rows, lost, plan):
        """Walk a plan hour by hour against what each field may have had and must have had."""
        self.assertIs(plan.__class__, list)
        self.assertEqual(len(plan), len(rows))
        may, must = may_have(rows), must_have(rows)
        had = [0] * (len(rows[0]) if rows else 0)
        for hour, choice in enumerate(plan):
            if choice is None:
                self.assertTrue(hour in lost or had == may[hour])
            else:
                self.assertIs(choice.__class__, int)
                self.assertIn(choice, range(len(had)))
                self.assertNotIn(hour, lost)
                had[choice] += 1
            for least, turns, most in zip(must[hour], had, may[hour]):
                self.assertLessEqual(least, turns)
                self.assertLessEqual(turns, most)

    def check_stretch(self, rows, lost, first, last):
        """Count the windows that lie whole within a stretch against its hours that aren't lost."""
        self.assertEqual((first.__class__, last.__class__), (int, int))
        self.assertTrue(0 <= first <= last < len(rows))
        spans = [(start, end) for place, k, start, end in windows_by_words(rows) if end is not None]
        within = [span for span in spans if first <= span[0] and span[1] <= last]
        open_hours = [hour for hour in range(first, last + 1) if hour not in lost]
        self.assertGreater(len(within), len(open_hours))

    def check(self, rows, lost):
        """Check what is told of a season, and tell whether it was a plan."""
        known = copy.deepcopy((rows, lost))
        told = planned(rows, lost)
        self.assertIs(told.__class__, tuple)
        self.assertEqual((rows, lost), known)
        if told[0] == "plan":
            self.assertEqual(len(told), 2)
            self.check_plan(rows, lost, told[1])
        else:
            self.assertEqual((told[0], len(told)), ("stretch", 3))
            self.check_stretch(rows, lost, told[1], told[2])
        if not lost:
            self.assertEqual(told[0], "plan")
            self.assertNotIn(None, told[1])
        return told[0] == "plan"


class WindowsTest(unittest.TestCase):
    def test_halves(self):
        self.assertEqual(windows([HALVES] * 4), [(0, 1, 0, 1), (0, 2, 2, 3), (1, 1, 0, 1), (1, 2, 2, 3)])

    def test_a_last_hour_that_the_season_does_not_have(self):
        self.assertEqual(windows([HALVES] * 3), [(0, 1, 0, 1), (0, 2, 2, None), (1, 1, 0, 1), (1, 2, 2, None)])
        self.assertEqual(windows([THIRDS]), [(0, 1, 0, None), (1, 1, 0, None), (2, 1, 0, None)])

    def test_a_turn_whose_first_hour_the_season_does_not_have(self):
        # Just at 1 behind the second hour the field may not have a second turn yet.
        self.assertEqual(windows([HALVES] * 2), [(0, 1, 0, 1), (1, 1, 0, 1)])

    def test_windows_that_meet_in_one_hour(self):
        rows = [[(2, 3), (1, 3)]] * 3
        self.assertEqual(windows(rows), [(0, 1, 0, 1), (0, 2, 1, 2), (1, 1, 0, 2)])

    def test_whole_shares_and_fields_without_any(self):
        rows = [[(1, 1), (0, 1)], [(1, 1), (0, 1)]]
        self.assertEqual(windows(rows), [(0, 1, 0, 0), (0, 2, 1, 1)])
        self.assertEqual(windows([[(0, 1), (1, 1)], [(1, 1), (0, 1)]]), [(0, 1, 1, 1), (1, 1, 0, 0)])

    def test_hours_ahead_in_which_nothing_is_gained(self):
        rows = [[(0, 1), (1, 1)], [(1, 4), (3, 4)], [(0, 1), (1, 1)], [(3, 4), (1, 4)], [(0, 1), (1, 1)]]
        spans = [(0, 1, 1, 3), (1, 1, 0, 0), (1, 2, 1, 2), (1, 3, 2, 3), (1, 4, 4, 4)]
        self.assertEqual(windows(rows), spans)

    def test_one_field(self):
        self.assertEqual(windows([[(1, 1)]] * 3), [(0, 1, 0, 0), (0, 2, 1, 1), (0, 3, 2, 2)])

    def test_a_season_without_hours(self):
        self.assertEqual(windows([]), [])

    def test_just_above_and_just_below_a_whole_number(self):
        little = Fraction(1, 10 ** 30)
        rows = [HALVES, [part(Fraction(1, 2) - little), part(Fraction(1, 2) + little)], HALVES]
        spans = [(0, 1, 0, 2), (0, 2, 2, None), (1, 1, 0, 1), (1, 2, 1, None)]
        self.assertEqual(windows(rows), spans)

    def test_kinds(self):
        told = windows([HALVES] * 3)
        self.assertIs(told.__class__, list)
        for span in told:
            self.assertIs(span.__class__, tuple)
            self.assertEqual([number.__class__ for number in span if number is not None], [int] * (3 + (span[3] is not None)))

    def test_drawn_seasons_against_the_words(self):
        draw = random.Random(70)
        for time in range(150):
            rows = drawn_rows(draw, draw.choice([0, 1, 2, 5, 12, 30, 60]), draw.randint(1, 12))
            known = copy.deepcopy(rows)
            self.assertEqual(windows(rows), windows_by_words(rows))
            self.assertEqual(rows, known)

    def test_each_answer_is_a_list_of_its_own(self):
        rows = [HALVES] * 3
        told = windows(rows)
        told.clear()
        self.assertEqual(len(windows(rows)), 4)
        self.assertEqual(rows, [[(1, 2), (1, 2)]] * 3)


class PlannedTest(SeasonCase):
    def test_a_season_without_hours(self):
        self.assertEqual(planned([], []), ("plan", []))

    def test_one_field(self):
        self.assertEqual(planned([[(1, 1)]] * 4, []), ("plan", [0, 0, 0, 0]))
        for lost in ([0], [2], [3], [1, 2], [0, 1, 2, 3]):
            self.assertFalse(self.check([[(1, 1)]] * 4, lost))

    def test_whole_shares(self):
        rows = [[(0, 1), (1, 1)], [(1, 1), (0, 1)], [(0, 1), (1, 1)]]
        self.assertEqual(planned(rows, []), ("plan", [1, 0, 1]))
        for lost in ([0], [1], [2], [0, 2], [0, 1, 2]):
            self.assertFalse(self.check(rows, lost))

    def test_every_hour_lost(self):
        self.assertEqual(planned([THIRDS], [0]), ("plan", [None]))
        self.assertEqual(planned([THIRDS] * 2, [0, 1]), ("plan", [None, None]))
        self.assertFalse(self.check([THIRDS] * 3, [0, 1, 2]))

    def test_a_lost_hour_that_the_others_make_up_for(self):
        rows = [[(1, 5)] * 5] * 4
        self.assertTrue(self.check(rows, [0]))
        self.assertTrue(self.check(rows, [0, 1, 2, 3]))
        self.assertFalse(self.check([[(1, 5)] * 5] * 5, [3]))

    def test_none_stands_at_lost_hours_only(self):
        # Behind an hour the fields together may have had more turns than there were hours ahead
        # of it, whichever were lost: so in each open hour some field may have one.
        draw = random.Random(71)
        for time in range(100):
            rows = drawn_rows(draw, draw.randint(1, 20), draw.randint(1, 6))
            lost = drawn_lost(draw, len(rows))
            told = planned(rows, lost)
            if told[0] == "plan":
                self.assertEqual([hour for hour, choice in enumerate(told[1]) if choice is None], lost)

    def test_no_hour_lost_for_every_count_of_hours(self):
        draw = random.Random(72)
        for hours in range(0, 61):
            for many in (1, 2, draw.randint(3, 11), 12):
                self.assertTrue(self.check(drawn_rows(draw, hours, many), []))

    def test_each_single_hour_lost(self):
        draw = random.Random(73)
        for time in range(10):
            rows = drawn_rows(draw, 24, draw.randint(1, 12))
            for hour in range(24):
                self.check(rows, [hour])

    def test_drawn_seasons(self):
        draw = random.Random(74)
        met = {True: 0, False: 0}
        for time in range(250):
            rows = drawn_rows(draw, draw.choice([1, 2, 3, 6, 12, 30, 60]), draw.randint(1, 12))
            met[self.check(rows, drawn_lost(draw, len(rows)))] += 1
        self.assertGreater(min(met.values()), 50)

    def test_lost_hours_among_many_fields_with_slack(self):
        draw = random.Random(75)
        met = {True: 0, False: 0}
        for time in range(150):
            weights = [draw.randint(1, 4) for place in range(12)]
            rows = [[part(Fraction(weight, sum(weights))) for weight in weights]] * draw.randint(1, 60)
            lost = sorted(draw.sample(range(len(rows)), min(len(rows), draw.randint(1, 3))))
            met[self.check(rows, lost)] += 1
        self.assertGreater(min(met.values()), 10)

    def test_small_seasons_against_every_way_tried(self):
        choices = [[(1, 2), (1, 2)], [(1, 3), (2, 3)], [(1, 1), (0, 1)], [(0, 1), (1, 1)]]
        for hours in range(1, 5):
            for rows in itertools.product(choices, repeat=hours):
                rows = [list(row) for row in rows]
                for lost in itertools.product([False, True], repeat=hours):
                    lost = [hour for hour in range(hours) if lost[hour]]
                    self.assertEqual(self.check(rows, lost), some_plan(rows, lost) is not None)

    def test_three_fields_against_every_way_tried(self):
        draw = random.Random(76)
        met = {True: 0, False: 0}
        for time in range(300):
            rows = drawn_rows(draw, draw.randint(1, 6), draw.randint(2, 4))
            lost = drawn_lost(draw, len(rows))
            plan = self.check(rows, lost)
            self.assertEqual(plan, some_plan(rows, lost) is not None)
            met[plan] += 1
        self.assertGreater(min(met.values()), 50)

    def test_shares_of_many_figures(self):
        draw = random.Random(77)
        rows = []
        for hour in range(60):
            bottom = draw.randrange(10 ** 60, 10 ** 61)
            first = Fraction(draw.randrange(bottom), bottom)
            rows.append([part(first), part(1 - first)])
        self.assertTrue(self.check(rows, []))
        self.check(rows, [59])

    def test_alike_each_time_and_each_list_its_own(self):
        rows, lost = [[(1, 5)] * 5] * 4, [1]
        told = planned(rows, lost)
        other = planned(rows, lost)
        self.assertEqual(told, other)
        self.assertIsNot(told[1], other[1])
        told[1].clear()
        self.assertEqual(planned(rows, lost), other)
        self.assertEqual((rows, lost), ([[(1, 5)] * 5] * 4, [1]))

    def test_the_handed_lists_are_not_kept(self):
        rows, lost = [[(1, 1), (0, 1)], [(0, 1), (1, 1)]], []
        told = planned(rows, lost)
        rows[0].reverse()
        rows.clear()
        lost.append(0)
        self.assertEqual(told, ("plan", [0, 1]))
        self.assertEqual(planned(rows, []), ("plan", []))

    def test_arguments_by_name(self):
        self.assertEqual(windows(rows=[]), [])
        self.assertEqual(planned(rows=[], lost=[]), ("plan", []))

    def test_somewhat_beyond_the_bounds(self):
        self.assertTrue(self.check([[(1, 13)] * 13] * 61, []))


if __name__ == "__main__":
    unittest.main()
