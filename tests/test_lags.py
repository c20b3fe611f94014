"""Points 5 and 6: lags, their bounds, and the hour."""

import random
import unittest
from fractions import Fraction

from ditchturn.bounds import before, behind, most
from ditchturn.foe import foe_lags
from ditchturn.lags import dealt, greatest, keeps, raised, turn_of
from ditch_help import MILLIONTH, part, parts


def fractions(row):
    return [Fraction(*number) for number in row]


def drawn_row(draw, many):
    """Lags of any sum, several of them alike."""
    return [Fraction(draw.randint(-6, 6), draw.randint(1, 4)) for place in range(many)]


def drawn_shares(draw, many):
    """Shares that sum up to one, some of them nought."""
    weights = [draw.choice([0, 1, 1, 2, 7]) for place in range(many)]
    weights[draw.randrange(many)] += 1
    return [Fraction(weight, sum(weights)) for weight in weights]


def foe_like_shares(lags, k):
    """The hour parted among the k fields that are most behind."""
    order = sorted(range(len(lags)), key=lambda place: -Fraction(*lags[place]))
    return parts(Fraction(1, k) if place in order[:k] else 0 for place in range(len(lags)))


def keeps_by_words(lags):
    """Point 5 by its words, in Fractions."""
    many = len(lags)
    row = sorted(fractions(lags), reverse=True)
    for k in range(1, many + 1):
        if sum(row[:k]) > k * sum(Fraction(1, number) for number in range(k + 1, many + 1)):
            return False
    return min(row) >= -(1 - Fraction(1, many))


class RaisedTest(unittest.TestCase):
    def test_sums(self):
        self.assertEqual(raised([(-1, 2), (1, 2)], [(1, 6), (5, 6)]), [(-1, 3), (4, 3)])
        self.assertEqual(raised([(0, 1)], [(1, 1)]), [(1, 1)])

    def test_drawn(self):
        draw = random.Random(6)
        for many in range(1, 25):
            lags, shares = drawn_row(draw, many), drawn_shares(draw, many)
            sums = parts(lag + share for lag, share in zip(lags, shares))
            self.assertEqual(raised(parts(lags), parts(shares)), sums)

    def test_handed_and_told_lists(self):
        lags, shares = [(1, 2), (-1, 2)], [(1, 4), (3, 4)]
        row = raised(lags, shares)
        row[0] = (9, 1)
        row.append((9, 1))
        self.assertEqual((lags, shares), ([(1, 2), (-1, 2)], [(1, 4), (3, 4)]))
        self.assertEqual(raised(lags, shares), [(3, 4), (1, 4)])


class TurnTest(unittest.TestCase):
    def test_first_of_several(self):
        self.assertEqual(turn_of([(1, 3), (1, 2), (1, 2), (0, 1)]), 1)
        self.assertEqual(turn_of([(0, 1)] * 24), 0)
        self.assertEqual(turn_of([(-1, 2)]), 0)
        self.assertEqual(turn_of([(-3, 1), (-1, 1), (-2, 1)]), 1)

    def test_by_size_and_not_by_top_or_bottom(self):
        self.assertEqual(turn_of([(3, 5), (2, 3)]), 1)
        self.assertEqual(turn_of([(7, 8), (1, 1), (10 ** 12, 10 ** 12 + 1)]), 1)

    def test_drawn(self):
        draw = random.Random(7)
        for many in range(1, 25):
            for time in range(20):
                row = drawn_row(draw, many)
                self.assertEqual(turn_of(parts(row)), row.index(max(row)))


class DealtTest(unittest.TestCase):
    def test_one_hour(self):
        self.assertEqual(dealt([(0, 1)], [(1, 1)]), (0, [(0, 1)]))
        self.assertEqual(dealt([(0, 1), (0, 1)], [(1, 2), (1, 2)]), (0, [(-1, 2), (1, 2)]))
        self.assertEqual(dealt([(-1, 2), (1, 2)], [(1, 2), (1, 2)]), (1, [(0, 1), (0, 1)]))

    def test_the_shares_count_and_not_the_lags_alone(self):
        self.assertEqual(dealt([(1, 4), (-1, 4)], [(0, 1), (1, 1)]), (1, [(1, 4), (-1, 4)]))

    def test_any_sum(self):
        self.assertEqual(dealt([(5, 1), (5, 1)], [(0, 1), (1, 1)]), (1, [(5, 1), (5, 1)]))
        self.assertEqual(dealt([(-5, 1), (-5, 1)], [(1, 1), (0, 1)]), (0, [(-5, 1), (-5, 1)]))

    def test_kinds(self):
        answer = dealt([(0, 1), (0, 1)], [(0, 1), (1, 1)])
        self.assertIs(tuple, answer.__class__)
        self.assertIs(list, answer[1].__class__)
        self.assertIs(int, answer[0].__class__)

    def test_handed_and_told_lists(self):
        lags, shares = [(0, 1), (0, 1)], [(1, 3), (2, 3)]
        place, row = dealt(lags, shares)
        row[0] = (9, 1)
        row.pop()
        self.assertEqual((lags, shares), ([(0, 1), (0, 1)], [(1, 3), (2, 3)]))
        self.assertEqual(dealt(lags, shares), (1, [(1, 3), (-1, 3)]))


class GreatestTest(unittest.TestCase):
    def test_nought_and_all(self):
        lags = [(1, 2), (-1, 3), (1, 2), (-2, 3)]
        self.assertEqual([greatest(lags, k) for k in range(5)], [(0, 1), (1, 2), (1, 1), (2, 3), (0, 1)])
        self.assertEqual([greatest([(-1, 7)], k) for k in range(2)], [(0, 1), (-1, 7)])

    def test_drawn(self):
        draw = random.Random(8)
        for many in range(1, 25):
            row = drawn_row(draw, many)
            lags = parts(row)
            for k in range(many + 1):
                self.assertEqual(greatest(lags, k), part(sum(sorted(row, reverse=True)[:k])))
            self.assertEqual(lags, parts(row))


class KeepsTest(unittest.TestCase):
    def test_one_field(self):
        self.assertIs(keeps([(0, 1)]), True)

    def test_two_fields(self):
        self.assertIs(keeps([(0, 1), (0, 1)]), True)
        self.assertIs(keeps([(1, 2), (-1, 2)]), True)
        self.assertIs(keeps([(-1, 2), (1, 2)]), True)
        self.assertIs(keeps([(2, 3), (-2, 3)]), False)
        self.assertIs(keeps([(-1, 1), (1, 1)]), False)

    def test_noughts(self):
        for many in range(1, 25):
            self.assertIs(keeps([(0, 1)] * many), True)

    def test_at_each_bound_and_a_little_beside_it(self):
        # Behind n - k hours against the foe the k fields without a turn are just at their bound.
        for many in range(2, 25):
            for k in range(1, many):
                lags = fractions(foe_lags(many, list(range(many - k))))
                self.assertEqual(part(sum(sorted(lags)[many - k:])), most(many, k))
                self.assertIs(keeps(parts(lags)), True)
                lags[many - 1] += MILLIONTH
                lags[0] -= MILLIONTH
                self.assertIs(keeps(parts(lags)), False, (many, k))

    def test_a_little_below_each_bound(self):
        for many in range(2, 25):
            for k in range(1, many):
                lags = fractions(foe_lags(many, list(range(many - k))))
                for place in range(many - k, many):
                    lags[place] -= MILLIONTH
                lags[many - k - 1] += k * MILLIONTH
                self.assertIs(keeps(parts(lags)), keeps_by_words(parts(lags)), (many, k))

    def test_just_the_first_bound(self):
        for many in range(2, 25):
            top = Fraction(*behind(many))
            rest = -top / (many - 1)
            self.assertIs(keeps(parts([rest] * (many - 1) + [top])), True)
            wrong = [rest - MILLIONTH / (many - 1)] * (many - 1) + [top + MILLIONTH]
            self.assertIs(keeps(parts(wrong)), False)
            right = [rest + MILLIONTH / (many - 1)] * (many - 1) + [top - MILLIONTH]
            self.assertIs(keeps(parts(right)), True)

    def test_just_the_least(self):
        for many in range(2, 25):
            least = -Fraction(*before(many))
            self.assertIs(keeps(parts([Fraction(1, many)] * (many - 1) + [least])), True)
            share = Fraction(1, many) + MILLIONTH
            self.assertIs(keeps(parts([share] * (many - 1) + [-share * (many - 1)])), False)
            share = Fraction(1, many) - MILLIONTH
            self.assertIs(keeps(parts([share] * (many - 1) + [-share * (many - 1)])), True)

    def test_a_middle_bound_alone_is_broken(self):
        # Of four fields two may be behind by 7/6 together; each alone may by 13/12.
        self.assertIs(keeps([(7, 12), (7, 12), (-7, 12), (-7, 12)]), True)
        self.assertIs(keeps([(2, 3), (2, 3), (-2, 3), (-2, 3)]), False)
        self.assertIs(keeps([(-2, 3), (2, 3), (-2, 3), (2, 3)]), False)

    def test_drawn(self):
        draw = random.Random(9)
        answers = {True: 0, False: 0}
        for time in range(3000):
            many = draw.randint(1, 8)
            row = [Fraction(draw.randint(-9, 9), draw.choice([9, 12, 15])) for place in range(many - 1)]
            lags = parts(row + [-sum(row)])
            answers[keeps_by_words(lags)] += 1
            self.assertIs(keeps(lags), keeps_by_words(lags), lags)
        self.assertGreater(min(answers.values()), 300)

    def test_the_handed_list(self):
        lags = [(-1, 2), (1, 2), (0, 1)]
        keeps(lags)
        self.assertEqual(lags, [(-1, 2), (1, 2), (0, 1)])


class HoursKeepTest(unittest.TestCase):
    def test_drawn_shares(self):
        draw = random.Random(10)
        for many in range(1, 25):
            lags = [(0, 1)] * many
            for hour in range(30):
                lags = dealt(lags, parts(drawn_shares(draw, many)))[1]
                self.assertTrue(keeps(lags))
                self.assertEqual(sum(fractions(lags)), 0)

    def test_shares_to_those_most_behind(self):
        for many in range(2, 25):
            lags = [(0, 1)] * many
            for k in list(range(many, 0, -1)) * 2:
                lags = dealt(lags, foe_like_shares(lags, k))[1]
                self.assertTrue(keeps(lags), (many, k))

    def test_the_foe_reaches_the_bound(self):
        for many in range(2, 25):
            lags = [(0, 1)] * many
            for k in range(many, 1, -1):
                lags = dealt(lags, foe_like_shares(lags, k))[1]
                self.assertEqual(greatest(lags, k - 1), most(many, k - 1))

    def test_from_lags_just_at_a_bound(self):
        draw = random.Random(11)
        for many in range(2, 25):
            for k in range(1, many):
                lags = foe_lags(many, list(range(many - k)))
                self.assertTrue(keeps(dealt(lags, parts(drawn_shares(draw, many)))[1]))
                self.assertTrue(keeps(dealt(lags, foe_like_shares(lags, k))[1]))

    def test_a_nought_put_behind(self):
        for many in range(1, 24):
            for k in range(1, many + 1):
                lags = foe_lags(many, list(range(many - k)))
                self.assertTrue(keeps(lags + [(0, 1)]), (many, k))


if __name__ == "__main__":
    unittest.main()
