"""Point 12: the log, deeds done by their tuples, WrongTurn."""

import random
import unittest

from ditchturn import errors
from ditchturn.ditch import Ditch
from ditch_help import Model, ditch_of, drawn_deed, told

EACH = [
    ("settle", "bob"),
    ("sell", "ann", "bob", (1, 3)),
    ("lend", "bob", "ann", (1, 6), 4),
    ("leave", "ann", (("cid", 2), ("dan", 3))),
    ("hour", "dan"),
    ("lose",),
]


class LogTest(unittest.TestCase):
    def test_every_kind_of_deed_by_its_method(self):
        ditch = Ditch("ann")
        self.assertEqual(ditch.log(), [])
        ditch.settle("bob")
        ditch.sell("ann", "bob", (1, 3))
        ditch.lend("bob", "ann", (1, 6), 4)
        ditch.leave("ann", [("cid", 2), ("dan", 3)])
        self.assertEqual(ditch.hour(), "dan")
        ditch.lose()
        self.assertEqual(ditch.log(), EACH)

    def test_every_kind_of_deed_by_its_tuple(self):
        ditch, other = Ditch("ann"), Ditch("ann")
        for deed in EACH:
            ditch.do(deed)
        self.assertEqual(ditch.log(), EACH)
        other.settle("bob")
        other.sell("ann", "bob", (1, 3))
        other.lend("bob", "ann", (1, 6), 4)
        other.leave("ann", [("cid", 2), ("dan", 3)])
        other.hour()
        other.lose()
        self.assertEqual(told(ditch), told(other))

    def test_kinds_within_the_log(self):
        for deed in ditch_of("ann", *EACH).log():
            self.assertIs(deed.__class__, tuple)
        self.assertIs(ditch_of("ann", *EACH).log()[3][2].__class__, tuple)
        self.assertEqual([pair.__class__ for pair in ditch_of("ann", *EACH).log()[3][2]], [tuple, tuple])

    def test_the_log_done_in_another_ditch_leads_to_the_same(self):
        ditch = ditch_of("ann", *EACH, "hour", "hour", ("lose",), "hour")
        self.assertEqual(told(ditch_of("ann", *ditch.log())), told(ditch))

    def test_behind_refused_deeds(self):
        ditch = ditch_of("ann", *EACH)
        wrong = [
            ("settle", "ann"), ("sell", "ann", "bob", (9, 1)), ("lend", "ann", "bob", (1, 9), 0),
            ("leave", "ann", ()), ("hour", "nobody"),
        ]
        for deed in wrong:
            with self.assertRaises(errors.DitchError):
                ditch.do(deed)
            self.assertEqual(ditch.log(), EACH)


class WrongTurnTest(unittest.TestCase):
    def setUp(self):
        self.ditch = ditch_of("ann", ("settle", "bob"), ("sell", "ann", "bob", (2, 3)))

    def test_the_due_field(self):
        self.assertEqual(self.ditch.due(), "bob")
        self.assertEqual(self.ditch.do(("hour", "bob")), "bob")
        self.assertEqual(self.ditch.do(("hour", "ann")), "ann")
        self.assertEqual(self.ditch.log()[-2:], [("hour", "bob"), ("hour", "ann")])
        self.assertEqual(self.ditch.given(), 2)

    def test_another_field_or_none(self):
        known = told(self.ditch)
        for name in ("ann", "cid", "", "Bob", "bob ", "no name"):
            with self.assertRaises(errors.WrongTurn):
                self.ditch.do(("hour", name))
            self.assertEqual(told(self.ditch), known)

    def test_the_first_of_several_alike_is_due(self):
        ditch = ditch_of("zoe", ("settle", "ann"), ("sell", "zoe", "ann", (1, 2)))
        with self.assertRaises(errors.WrongTurn):
            ditch.do(("hour", "ann"))
        self.assertEqual(ditch.do(("hour", "zoe")), "zoe")


class DrawnDeedsTest(unittest.TestCase):
    def test_against_a_second_reckoning(self):
        draw = random.Random(30)
        met = {}
        for steps in [40] * 40 + [200] * 6:
            ditch, model = Ditch("ann"), Model("ann")
            for step in range(steps):
                deed = drawn_deed(draw, model)
                word = model.refusal(deed)
                met[word] = met.get(word, 0) + 1
                if word is None:
                    self.assertEqual(ditch.do(deed), deed[1] if deed[0] == "hour" else None)
                    model.do(deed)
                else:
                    with self.assertRaises(getattr(errors, word)):
                        ditch.do(deed)
                self.assertEqual(ditch.log(), model.deeds)
            self.assertEqual(told(ditch), model.told())
        words = "BadName Taken Full NoField Same NoPart TooMuch NoHours NoHeirs NoWeight WrongTurn".split()
        self.assertEqual(set(met), set(words) | {None})

    def test_all_that_is_told_behind_each_deed(self):
        draw = random.Random(31)
        for time in range(8):
            ditch, model = Ditch("ann"), Model("ann")
            for step in range(40):
                deed = drawn_deed(draw, model)
                if model.refusal(deed) is None:
                    ditch.do(deed)
                    model.do(deed)
                else:
                    self.assertRaises(errors.DitchError, ditch.do, deed)
                self.assertEqual(told(ditch, 3), model.told(3))


if __name__ == "__main__":
    unittest.main()
