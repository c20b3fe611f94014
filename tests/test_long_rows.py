"""Points 7 and 13: gain, turns, lag, the bounds at every moment and the waits, over long rows of deeds."""

import random
import unittest
from fractions import Fraction

from ditchturn.bounds import wait
from ditchturn.ditch import Ditch
from ditchturn.lags import keeps
from ditch_help import Model, ditch_of, drawn_deed, drawn_moments, part, parts


class GainTest(unittest.TestCase):
    def test_shares_in_hours_given(self):
        ditch = ditch_of("ann", ("settle", "bob"), ("sell", "ann", "bob", (1, 3)), "hour", ("lose",))
        self.assertEqual([ditch.gain("ann"), ditch.gain("bob")], [(2, 3), (1, 3)])
        self.assertEqual([ditch.turns("ann"), ditch.turns("bob")], [1, 0])
        self.assertEqual([ditch.lag("ann"), ditch.lag("bob")], [(-1, 3), (1, 3)])
        ditch.sell("ann", "bob", (2, 3))
        self.assertEqual(ditch.hour(), "bob")
        self.assertEqual([ditch.gain("ann"), ditch.gain("bob")], [(2, 3), (4, 3)])
        self.assertEqual([ditch.turns("ann"), ditch.turns("bob")], [1, 1])
        self.assertEqual(ditch.lags(), [(-1, 3), (1, 3)])

    def test_adding_up_what_was_told(self):
        draw = random.Random(40)
        for time in range(12):
            ditch, model = Ditch("ann"), Model("ann")
            gains, turns, hours = {}, {}, {"given": 0, "lost": 0}
            for step in range(150):
                deed = drawn_deed(draw, model, strange=0)
                if model.refusal(deed) is not None:
                    continue
                shares = {name: Fraction(*ditch.share(name)) for name in ditch.fields()}
                ditch.do(deed)
                model.do(deed)
                if deed[0] == "hour":
                    turns[deed[1]] = turns.get(deed[1], 0) + 1
                    gains = {name: gains.get(name, 0) + shares[name] for name in shares}
                hours["given"] += deed[0] == "hour"
                hours["lost"] += deed[0] == "lose"
                self.check(ditch, gains, turns, hours)

    def check(self, ditch, gains, turns, hours):
        names = ditch.fields()
        self.assertEqual([ditch.gain(name) for name in names], parts(gains.get(name, 0) for name in names))
        self.assertEqual([ditch.turns(name) for name in names], [turns.get(name, 0) for name in names])
        lags = parts(gains.get(name, 0) - turns.get(name, 0) for name in names)
        self.assertEqual([ditch.lag(name) for name in names], lags)
        self.assertEqual(ditch.lags(), lags)
        self.assertEqual({"given": ditch.given(), "lost": ditch.lost()}, hours)


class BoundsTest(unittest.TestCase):
    def test_drawn_deeds(self):
        for ditch, model in drawn_moments(41, 10, 150):
            self.assertTrue(keeps(ditch.lags()), ditch.log())

    def test_shares_sold_to_those_most_behind(self):
        for many in (2, 3, 5, 8, 13, 24):
            ditch = Ditch("a")
            for name in "abcdefghijklmnopqrstuvwx"[1:many]:
                ditch.settle(name)
                ditch.sell("a", name, (1, many))
            for hour in range(40):
                self.sell_to_those_behind(ditch, ditch.hour())
                self.assertTrue(keeps(ditch.lags()), ditch.log())

    def sell_to_those_behind(self, ditch, giver):
        takers = [name for name in ditch.fields() if ditch.lag(name)[0] > 0 and name != giver]
        free = Fraction(*ditch.free(giver))
        if takers and free > 0:
            for name in takers:
                ditch.sell(giver, name, part(free / len(takers)))

    def test_fields_settled_while_others_are_at_their_bounds(self):
        ditch = ditch_of("a", ("settle", "b"), ("sell", "a", "b", (1, 2)), "hour")
        for name in "cdefghijklmnopqrstuvwx":
            ditch.settle(name)
            self.assertTrue(keeps(ditch.lags()))
            ditch.hour()
            self.assertTrue(keeps(ditch.lags()))


class WaitTest(unittest.TestCase):
    def check_waits(self, ditch, rows):
        """No field waits longer than `wait` tells; rows are (turn, shares) of each hour."""
        many = len(ditch.fields())
        for name in ditch.fields():
            least, hours = None, 0
            for turn, shares in reversed(rows):
                share = shares.get(name, Fraction(0))
                if turn == name or share == 0:
                    break
                least = share if least is None else min(least, share)
                hours += 1
                self.assertLessEqual(hours, wait(many, part(least)))

    def test_drawn_deeds(self):
        for ditch, model in drawn_moments(43, 10, 200):
            self.check_waits(ditch, model.hours)

    def test_small_shares(self):
        for many in range(2, 25):
            ditch = Ditch("a")
            for name in "abcdefghijklmnopqrstuvwx"[1:many]:
                ditch.settle(name)
                ditch.sell("a", name, (1, 2 * many))
            rows = []
            for hour in range(4 * many):
                shares = {name: Fraction(*ditch.share(name)) for name in ditch.fields()}
                rows.append((ditch.hour(), shares))
            self.check_waits(ditch, rows)

    def test_no_longer_than_the_share_asks_where_nothing_changes(self):
        ditch = ditch_of("ann", ("settle", "bob"), ("sell", "ann", "bob", (1, 10)))
        turns = [ditch.hour() for hour in range(100)]
        self.assertEqual(turns.count("bob"), 10)
        places = [hour for hour, name in enumerate(turns) if name == "bob"]
        for first, second in zip(places, places[1:]):
            self.assertLessEqual(second - first - 1, wait(2, (1, 10)))


if __name__ == "__main__":
    unittest.main()
