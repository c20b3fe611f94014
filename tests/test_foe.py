"""Points 8 and 9: the foe."""

import itertools
import random
import unittest
from fractions import Fraction

from ditchturn.bounds import behind, foe_hours
from ditchturn.foe import foe_lags, foe_shares
from ditchturn.lags import dealt
from ditch_help import part, parts


def shares_by_words(many, turns):
    idle = set(range(many)) - set(turns)
    among = idle or set(range(many))
    return [Fraction(1, len(among)) if place in among else Fraction(0) for place in range(many)]


def lags_by_words(many, turns):
    lags = [Fraction(0)] * many
    for hour, place in enumerate(turns):
        lags = [lag + share for lag, share in zip(lags, shares_by_words(many, turns[:hour]))]
        lags[place] -= 1
    return lags


class FoeSharesTest(unittest.TestCase):
    def test_no_turns(self):
        for many in range(2, 25):
            self.assertEqual(foe_shares(many, []), [(1, many)] * many)

    def test_those_without_a_turn(self):
        self.assertEqual(foe_shares(3, [1]), [(1, 2), (0, 1), (1, 2)])
        self.assertEqual(foe_shares(3, [1, 0]), [(0, 1), (0, 1), (1, 1)])
        self.assertEqual(foe_shares(3, [1, 1, 1]), [(1, 2), (0, 1), (1, 2)])
        self.assertEqual(foe_shares(2, [1] * 200), [(1, 1), (0, 1)])

    def test_all_had_one(self):
        for many in range(2, 25):
            self.assertEqual(foe_shares(many, list(range(many))), [(1, many)] * many)
            self.assertEqual(foe_shares(many, list(range(many)) + [0]), [(1, many)] * many)

    def test_drawn(self):
        draw = random.Random(1)
        for many in range(2, 25):
            for count in (1, many, 60, 200):
                turns = [draw.randrange(many) for hour in range(count)]
                self.assertEqual(foe_shares(many, turns), parts(shares_by_words(many, turns)))

    def test_handed_and_told_lists(self):
        turns = [0, 2]
        row = foe_shares(3, turns)
        row[1] = (9, 1)
        self.assertEqual(turns, [0, 2])
        self.assertEqual(foe_shares(3, turns), [(0, 1), (1, 1), (0, 1)])


class FoeLagsTest(unittest.TestCase):
    def test_no_turns(self):
        for many in range(2, 25):
            self.assertEqual(foe_lags(many, []), [(0, 1)] * many)

    def test_three_fields(self):
        self.assertEqual(foe_lags(3, [0]), [(-2, 3), (1, 3), (1, 3)])
        self.assertEqual(foe_lags(3, [0, 2]), [(-2, 3), (5, 6), (-1, 6)])
        self.assertEqual(foe_lags(3, [0, 0]), [(-5, 3), (5, 6), (5, 6)])
        self.assertEqual(foe_lags(3, [0, 2, 1]), [(-2, 3), (5, 6), (-1, 6)])
        self.assertEqual(foe_lags(3, [0, 2, 1, 1]), [(-1, 3), (1, 6), (1, 6)])

    def test_drawn(self):
        draw = random.Random(2)
        for many in range(2, 25):
            for count in (1, many, 200):
                turns = [draw.randrange(many) for hour in range(count)]
                self.assertEqual(foe_lags(many, turns), parts(lags_by_words(many, turns)))

    def test_each_place_once_and_again(self):
        for many in range(2, 25):
            turns = (list(range(many)) * 100)[:200]
            self.assertEqual(foe_lags(many, turns), parts(lags_by_words(many, turns)))

    def test_step_by_step_as_long_as_no_turn_comes_twice(self):
        draw = random.Random(3)
        for many in range(2, 25):
            turns = draw.sample(range(many), many)
            for k in range(many, 0, -1):
                lags = foe_lags(many, turns[:many - k])
                due = part(sum(Fraction(1, number) for number in range(k + 1, many + 1)))
                for place in turns[many - k:]:
                    self.assertEqual(lags[place], due)

    def test_handed_and_told_lists(self):
        turns = [0, 2]
        row = foe_lags(3, turns)
        row[1] = (9, 1)
        self.assertEqual(turns, [0, 2])
        self.assertEqual(foe_lags(3, turns), [(-2, 3), (5, 6), (-1, 6)])


class SomeFieldIsBehindTest(unittest.TestCase):
    def reaches(self, many, turns):
        bound = Fraction(*behind(many))
        return any(
            Fraction(*lag) >= bound
            for hours in range(1, foe_hours(many) + 1)
            for lag in foe_lags(many, turns[:hours])
        )

    def test_all_turns_of_few_fields(self):
        for many in (2, 3, 4):
            for turns in itertools.product(range(many), repeat=foe_hours(many)):
                self.assertTrue(self.reaches(many, list(turns)), turns)

    def test_drawn_turns(self):
        draw = random.Random(4)
        for many in range(2, 25):
            for time in range(3):
                turns = [draw.randrange(many) for hour in range(foe_hours(many))]
                self.assertTrue(self.reaches(many, turns), (many, turns))
            self.assertTrue(self.reaches(many, (list(range(many)) * 4)[:foe_hours(many)]))
            self.assertTrue(self.reaches(many, [many - 1] * foe_hours(many)))

    def test_turns_dealt_to_the_greatest(self):
        for many in range(2, 25):
            turns, lags = [], [(0, 1)] * many
            for hour in range(foe_hours(many)):
                place, lags = dealt(lags, foe_shares(many, turns))
                turns.append(place)
                self.assertEqual(foe_lags(many, turns), lags)
            self.assertTrue(self.reaches(many, turns))


if __name__ == "__main__":
    unittest.main()
