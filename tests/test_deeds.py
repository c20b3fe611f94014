"""Point 11: what each deed does, and its refusals in their order."""

import unittest
from fractions import Fraction

from ditchturn import errors
from ditchturn.ditch import Ditch
from ditch_help import MILLIONTH, ditch_of, part, told

NAMES = "abcdefghijklmnopqrstuvwx"


class DeedTest(unittest.TestCase):
    def refused(self, word, ditch, method, *handed):
        """The refusal is just this class, by the method and by the tuple, and nothing changes."""
        ditch.lose()
        ditch.back()
        known = told(ditch)
        ways = [lambda: getattr(ditch, method)(*handed)]
        deed = (method,) + tuple(tuple(item) if isinstance(item, list) else item for item in handed)
        ways.append(lambda: ditch.do(deed))
        for way in ways:
            with self.assertRaises(errors.DitchError) as caught:
                way()
            self.assertEqual(caught.exception.__class__.__name__, word, deed)
            self.assertEqual(told(ditch), known)
        # A refused deed is none since: what was taken back can be done again.
        self.assertEqual(ditch.again(), ("lose",))
        ditch.back()


class SettleTest(DeedTest):
    def test_it_owns_nothing_and_its_lag_is_nought(self):
        ditch = ditch_of("ann", ("settle", "bob"), ("sell", "ann", "bob", (1, 3)), "hour")
        ditch.settle("cid")
        self.assertEqual(ditch.fields(), ["ann", "bob", "cid"])
        self.assertEqual([ditch.owned("cid"), ditch.free("cid"), ditch.share("cid")], [(0, 1)] * 3)
        self.assertEqual((ditch.lag("cid"), ditch.gain("cid"), ditch.turns("cid")), ((0, 1), (0, 1), 0))
        self.assertEqual(ditch.lags(), [(-1, 3), (1, 3), (0, 1)])

    def test_up_to_24_fields_and_one_more(self):
        ditch = Ditch("a")
        for name in NAMES[1:]:
            ditch.settle(name)
        self.assertEqual(ditch.fields(), list(NAMES))
        self.refused("Full", ditch, "settle", "y")

    def test_refusals(self):
        ditch = ditch_of("ann", ("settle", "bob"))
        for name in ("", "abcdefghi", "Bob", "b1", "bob ", "\n"):
            self.refused("BadName", ditch, "settle", name)
        self.refused("Taken", ditch, "settle", "ann")
        self.refused("Taken", ditch, "settle", "bob")

    def test_order_of_refusals(self):
        ditch = Ditch("a")
        for name in NAMES[1:]:
            ditch.settle(name)
        self.refused("BadName", ditch, "settle", "Y")
        self.refused("Taken", ditch, "settle", "x")


class SellTest(DeedTest):
    def test_what_is_owned_goes_over(self):
        ditch = ditch_of("ann", ("settle", "bob"), ("sell", "ann", "bob", (1, 4)), ("sell", "bob", "ann", (1, 12)))
        self.assertEqual([ditch.owned("ann"), ditch.owned("bob")], [(5, 6), (1, 6)])
        self.assertEqual([ditch.free("ann"), ditch.free("bob")], [(5, 6), (1, 6)])
        self.assertEqual([ditch.share("ann"), ditch.share("bob")], [(5, 6), (1, 6)])

    def test_lags_turns_and_loans_stay(self):
        ditch = ditch_of("ann", ("settle", "bob"), ("lend", "ann", "bob", (1, 2), 7), "hour")
        ditch.sell("ann", "bob", (1, 2))
        self.assertEqual((ditch.lags(), ditch.turns("ann")), ([(-1, 2), (1, 2)], 1))
        self.assertEqual(ditch.loans(), [("ann", "bob", (1, 2), 6)])
        self.assertEqual([ditch.owned("ann"), ditch.free("ann"), ditch.share("ann")], [(1, 2), (0, 1), (0, 1)])
        self.assertEqual([ditch.owned("bob"), ditch.free("bob"), ditch.share("bob")], [(1, 2), (1, 2), (1, 1)])

    def test_all_that_is_free_and_a_little_more(self):
        ditch = ditch_of("ann", ("settle", "bob"), ("settle", "cid"), ("lend", "ann", "cid", (1, 3), 2))
        self.refused("TooMuch", ditch, "sell", "ann", "bob", part(Fraction(2, 3) + MILLIONTH))
        ditch.sell("ann", "bob", (2, 3))
        self.assertEqual([ditch.owned("ann"), ditch.free("ann"), ditch.share("ann")], [(1, 3), (0, 1), (0, 1)])
        self.refused("TooMuch", ditch, "sell", "ann", "bob", part(MILLIONTH))

    def test_what_is_lent_to_a_field_is_not_its_own_to_sell(self):
        ditch = ditch_of("ann", ("settle", "bob"), ("settle", "cid"), ("lend", "ann", "bob", (1, 3), 2))
        self.refused("TooMuch", ditch, "sell", "bob", "cid", (1, 100))
        self.refused("TooMuch", ditch, "lend", "bob", "cid", (1, 100), 1)

    def test_refusals(self):
        ditch = ditch_of("ann", ("settle", "bob"))
        self.refused("NoField", ditch, "sell", "cid", "ann", (1, 2))
        self.refused("NoField", ditch, "sell", "ann", "cid", (1, 2))
        self.refused("NoField", ditch, "sell", "cid", "dan", (1, 2))
        self.refused("NoField", ditch, "sell", "Ann", "", (1, 2))
        self.refused("Same", ditch, "sell", "ann", "ann", (1, 2))
        self.refused("NoPart", ditch, "sell", "ann", "bob", (0, 1))
        self.refused("NoPart", ditch, "sell", "ann", "bob", (-1, 2))
        self.refused("TooMuch", ditch, "sell", "ann", "bob", (3, 2))
        self.refused("TooMuch", ditch, "sell", "bob", "ann", (1, 10 ** 12))

    def test_order_of_refusals(self):
        ditch = ditch_of("ann", ("settle", "bob"))
        self.refused("NoField", ditch, "sell", "cid", "cid", (0, 1))
        self.refused("NoField", ditch, "sell", "ann", "cid", (5, 1))
        self.refused("Same", ditch, "sell", "bob", "bob", (0, 1))
        self.refused("Same", ditch, "sell", "bob", "bob", (1, 2))
        self.refused("NoPart", ditch, "sell", "bob", "ann", (0, 1))


class LendTest(DeedTest):
    def test_for_one_hour_given_or_lost(self):
        for way in ("hour", "lose"):
            ditch = ditch_of("ann", ("settle", "bob"), ("lend", "ann", "bob", (1, 4), 1))
            self.assertEqual([ditch.owned("ann"), ditch.free("ann"), ditch.share("ann")], [(1, 1), (3, 4), (3, 4)])
            self.assertEqual([ditch.owned("bob"), ditch.free("bob"), ditch.share("bob")], [(0, 1), (0, 1), (1, 4)])
            getattr(ditch, way)()
            self.assertEqual(ditch.loans(), [])
            self.assertEqual([ditch.owned("ann"), ditch.free("ann"), ditch.share("ann")], [(1, 1)] * 3)
            self.assertEqual([ditch.owned("bob"), ditch.free("bob"), ditch.share("bob")], [(0, 1)] * 3)

    def test_for_999_hours(self):
        ditch = ditch_of("ann", ("settle", "bob"), ("lend", "ann", "bob", (1, 2), 999))
        for hour in range(998):
            ditch.hour() if hour % 3 else ditch.lose()
        self.assertEqual(ditch.loans(), [("ann", "bob", (1, 2), 1)])
        self.assertEqual((ditch.share("ann"), ditch.share("bob")), ((1, 2), (1, 2)))
        ditch.hour()
        self.assertEqual(ditch.loans(), [])
        self.assertEqual((ditch.share("ann"), ditch.share("bob")), ((1, 1), (0, 1)))

    def test_the_last_hour_still_counts_for_the_taker(self):
        ditch = ditch_of("ann", ("settle", "bob"), ("lend", "ann", "bob", (1, 1), 2))
        self.assertEqual([ditch.hour(), ditch.hour(), ditch.hour()], ["bob", "bob", "ann"])
        self.assertEqual((ditch.gain("ann"), ditch.gain("bob")), ((1, 1), (2, 1)))

    def test_loans_end_each_by_itself(self):
        ditch = ditch_of(
            "ann", ("settle", "bob"), ("settle", "cid"), ("lend", "ann", "bob", (1, 4), 2),
            ("lend", "ann", "cid", (1, 4), 1), ("lend", "ann", "bob", (1, 8), 1), ("lend", "ann", "bob", (1, 8), 3),
        )
        ditch.lose()
        self.assertEqual(ditch.loans(), [("ann", "bob", (1, 4), 1), ("ann", "bob", (1, 8), 2)])
        self.assertEqual([ditch.share(name) for name in ditch.fields()], [(5, 8), (3, 8), (0, 1)])
        self.assertEqual([ditch.free(name) for name in ditch.fields()], [(5, 8), (0, 1), (0, 1)])

    def test_bound_of_the_hours(self):
        ditch = ditch_of("ann", ("settle", "bob"))
        for hours in (0, -1, 1000, 10 ** 20):
            self.refused("NoHours", ditch, "lend", "ann", "bob", (1, 2), hours)
        ditch.lend("ann", "bob", (1, 3), 1)
        ditch.lend("ann", "bob", (1, 3), 999)
        self.assertEqual([loan[3] for loan in ditch.loans()], [1, 999])

    def test_all_that_is_free_and_a_little_more(self):
        ditch = ditch_of("ann", ("settle", "bob"), ("lend", "ann", "bob", (1, 3), 5))
        self.refused("TooMuch", ditch, "lend", "ann", "bob", part(Fraction(2, 3) + MILLIONTH), 5)
        ditch.lend("ann", "bob", (2, 3), 5)
        self.assertEqual((ditch.free("ann"), ditch.share("bob")), ((0, 1), (1, 1)))

    def test_refusals(self):
        ditch = ditch_of("ann", ("settle", "bob"))
        self.refused("NoField", ditch, "lend", "cid", "ann", (1, 2), 5)
        self.refused("NoField", ditch, "lend", "ann", "cid", (1, 2), 5)
        self.refused("Same", ditch, "lend", "ann", "ann", (1, 2), 5)
        self.refused("NoPart", ditch, "lend", "ann", "bob", (0, 1), 5)
        self.refused("NoPart", ditch, "lend", "ann", "bob", (-3, 7), 5)
        self.refused("TooMuch", ditch, "lend", "ann", "bob", (2, 1), 5)

    def test_order_of_refusals(self):
        ditch = ditch_of("ann", ("settle", "bob"))
        self.refused("NoField", ditch, "lend", "cid", "cid", (0, 1), 0)
        self.refused("Same", ditch, "lend", "bob", "bob", (0, 1), 0)
        self.refused("NoPart", ditch, "lend", "bob", "ann", (0, 1), 0)
        self.refused("NoHours", ditch, "lend", "bob", "ann", (1, 2), 1000)
        self.refused("TooMuch", ditch, "lend", "bob", "ann", (1, 2), 999)


class LeaveTest(DeedTest):
    def test_by_weights(self):
        ditch = ditch_of("ann", ("settle", "bob"), ("sell", "ann", "bob", (1, 4)))
        ditch.leave("ann", [("cid", 2), ("dan", 1)])
        self.assertEqual(ditch.fields(), ["ann", "bob", "cid", "dan"])
        self.assertEqual([ditch.owned(name) for name in ditch.fields()], [(0, 1), (1, 4), (1, 2), (1, 4)])
        self.assertEqual([ditch.free(name) for name in ditch.fields()], [(0, 1), (1, 4), (1, 2), (1, 4)])
        self.assertEqual([ditch.share(name) for name in ditch.fields()], [(0, 1), (1, 4), (1, 2), (1, 4)])

    def test_bounds_of_the_weights(self):
        ditch = Ditch("ann")
        for weight in (0, 1000000, -1):
            self.refused("NoWeight", ditch, "leave", "ann", [("bob", weight)])
            self.refused("NoWeight", ditch, "leave", "ann", [("bob", 1), ("cid", weight)])
        ditch.leave("ann", [("bob", 1), ("cid", 999999)])
        self.assertEqual([ditch.owned("bob"), ditch.owned("cid")], [(1, 1000000), (999999, 1000000)])

    def test_lag_and_turns_stay_and_heirs_begin_at_nought(self):
        ditch = ditch_of("ann", ("settle", "bob"), ("sell", "ann", "bob", (1, 3)), "hour")
        ditch.leave("ann", [("cid", 1)])
        self.assertEqual((ditch.lag("ann"), ditch.gain("ann"), ditch.turns("ann")), ((-1, 3), (2, 3), 1))
        self.assertEqual((ditch.lag("cid"), ditch.gain("cid"), ditch.turns("cid")), ((0, 1), (0, 1), 0))

    def test_while_a_part_is_lent_out(self):
        ditch = ditch_of("ann", ("settle", "bob"), ("lend", "ann", "bob", (1, 4), 1))
        ditch.leave("ann", [("cid", 1), ("dan", 2)])
        self.assertEqual([ditch.owned(name) for name in ditch.fields()], [(1, 4), (0, 1), (1, 4), (1, 2)])
        self.assertEqual([ditch.free(name) for name in ditch.fields()], [(0, 1), (0, 1), (1, 4), (1, 2)])
        self.assertEqual([ditch.share(name) for name in ditch.fields()], [(0, 1), (1, 4), (1, 4), (1, 2)])
        self.assertEqual(ditch.loans(), [("ann", "bob", (1, 4), 1)])
        ditch.lose()
        self.assertEqual([ditch.free(name) for name in ditch.fields()], [(1, 4), (0, 1), (1, 4), (1, 2)])
        ditch.leave("ann", [("eva", 7)])
        self.assertEqual([ditch.owned("ann"), ditch.owned("eva")], [(0, 1), (1, 4)])

    def test_what_is_lent_to_it_is_not_left(self):
        ditch = ditch_of("ann", ("settle", "bob"), ("lend", "ann", "bob", (1, 4), 2), ("leave", "bob", (("cid", 1),)))
        self.assertEqual([ditch.share(name) for name in ditch.fields()], [(3, 4), (1, 4), (0, 1)])
        self.assertEqual(ditch.owned("cid"), (0, 1))

    def test_nothing_free(self):
        ditch = ditch_of("ann", ("settle", "bob"))
        ditch.leave("bob", [("cid", 1), ("dan", 5)])
        self.assertEqual([ditch.owned("cid"), ditch.owned("dan"), ditch.owned("ann")], [(0, 1), (0, 1), (1, 1)])

    def test_room(self):
        ditch = ditch_of("a", ("settle", "b"))
        heirs = [(name, 1) for name in NAMES[2:]]
        self.refused("Full", ditch, "leave", "a", heirs + [("y", 1)])
        ditch.leave("a", heirs)
        self.assertEqual(ditch.fields(), list(NAMES))
        self.assertEqual(ditch.owned("x"), (1, 22))
        self.refused("Full", ditch, "leave", "x", [("y", 1)])

    def test_refusals(self):
        ditch = ditch_of("ann", ("settle", "bob"))
        self.refused("NoField", ditch, "leave", "cid", [("dan", 1)])
        self.refused("NoField", ditch, "leave", "", [("dan", 1)])
        self.refused("NoHeirs", ditch, "leave", "ann", [])
        self.refused("BadName", ditch, "leave", "ann", [("Dan", 1)])
        self.refused("BadName", ditch, "leave", "ann", [("dan", 1), ("", 1)])
        self.refused("Taken", ditch, "leave", "ann", [("bob", 1)])
        self.refused("Taken", ditch, "leave", "ann", [("ann", 1)])
        self.refused("Taken", ditch, "leave", "ann", [("dan", 1), ("eva", 1), ("dan", 2)])

    def test_order_of_refusals(self):
        ditch = ditch_of("ann", ("settle", "bob"))
        self.refused("NoField", ditch, "leave", "cid", [])
        self.refused("NoField", ditch, "leave", "cid", [("Dan", 0)])
        self.refused("BadName", ditch, "leave", "ann", [("Dan", 0)])
        self.refused("Taken", ditch, "leave", "ann", [("bob", 0)])
        self.refused("NoWeight", ditch, "leave", "ann", [("dan", 0), ("Eva", 1)])
        self.refused("NoWeight", ditch, "leave", "ann", [("dan", 0), ("bob", 1)])
        self.refused("BadName", ditch, "leave", "ann", [("Eva", 1), ("dan", 0)])
        self.refused("Taken", ditch, "leave", "ann", [("bob", 1), ("dan", 0)])
        many = [(name, 1) for name in NAMES]
        self.refused("BadName", ditch, "leave", "ann", many + [("Z", 1)])
        self.refused("Taken", ditch, "leave", "ann", many + [("a", 1)])
        self.refused("NoWeight", ditch, "leave", "ann", many + [("z", 0)])
        self.refused("Full", ditch, "leave", "ann", many + [("z", 1)])

    def test_heirs_of_a_refused_leaving_are_not_settled(self):
        ditch = Ditch("ann")
        self.refused("NoWeight", ditch, "leave", "ann", [("bob", 1), ("cid", 0)])
        ditch.settle("bob")
        self.assertEqual(ditch.fields(), ["ann", "bob"])


class HourTest(DeedTest):
    def test_turns_by_the_greatest_lag_with_its_share(self):
        ditch = ditch_of("ann", ("settle", "bob"), ("settle", "cid"), ("sell", "ann", "bob", (1, 3)))
        ditch.sell("ann", "cid", (1, 6))
        self.assertEqual([ditch.hour() for hour in range(6)], ["ann", "bob", "ann", "cid", "bob", "ann"])
        self.assertEqual(ditch.lags(), [(0, 1)] * 3)
        self.assertEqual([ditch.turns(name) for name in ditch.fields()], [3, 2, 1])
        self.assertEqual((ditch.given(), ditch.lost()), (6, 0))

    def test_of_several_alike_the_first(self):
        ditch = ditch_of("zoe", ("settle", "ann"), ("sell", "zoe", "ann", (1, 2)))
        self.assertEqual([ditch.hour() for hour in range(4)], ["zoe", "ann", "zoe", "ann"])

    def test_lost_hours(self):
        ditch = ditch_of("ann", ("settle", "bob"), ("sell", "ann", "bob", (1, 2)), "hour")
        known = told(ditch)
        ditch.lose()
        ditch.lose()
        self.assertEqual((ditch.given(), ditch.lost()), (1, 2))
        behind = told(ditch)
        for word in known:
            if word not in ("lost", "log"):
                self.assertEqual(behind[word], known[word], word)
        self.assertEqual(ditch.hour(), "bob")


if __name__ == "__main__":
    unittest.main()
