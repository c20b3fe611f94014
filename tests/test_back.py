"""Point 14: deeds taken back and done again, and twins."""

import random
import unittest

from ditchturn.ditch import Ditch
from ditchturn.errors import DitchError, NothingLeft
from ditch_help import Model, ditch_of, drawn_deed, redone, told

EACH = [
    ("settle", "bob"),
    ("sell", "ann", "bob", (1, 3)),
    ("lend", "bob", "ann", (1, 6), 2),
    ("hour", "ann"),
    ("lose",),
    ("leave", "ann", (("cid", 2), ("dan", 3))),
    ("hour", "bob"),
    ("settle", "eva"),
]


class BackTest(unittest.TestCase):
    def test_over_every_kind_of_deed(self):
        ditch = Ditch("ann")
        known = [told(ditch)]
        for deed in EACH:
            ditch.do(deed)
            known.append(told(ditch))
        for at in range(len(EACH) - 1, -1, -1):
            self.assertEqual(ditch.back(), EACH[at])
            self.assertEqual(told(ditch), known[at])
        for at, deed in enumerate(EACH):
            self.assertEqual(ditch.again(), deed)
            self.assertEqual(told(ditch), known[at + 1])

    def test_all_taken_back_to_the_first_field(self):
        ditch = ditch_of("ann", *EACH)
        for deed in EACH:
            ditch.back()
        self.assertEqual(told(ditch), told(Ditch("ann")))
        with self.assertRaises(NothingLeft):
            ditch.back()
        self.assertEqual(told(ditch), told(Ditch("ann")))
        self.assertEqual(redone(ditch), EACH)

    def test_nothing_left(self):
        ditch = Ditch("ann")
        self.assertRaises(NothingLeft, ditch.back)
        self.assertRaises(NothingLeft, ditch.again)
        ditch.settle("bob")
        self.assertRaises(NothingLeft, ditch.again)
        ditch.back()
        ditch.again()
        self.assertRaises(NothingLeft, ditch.again)
        self.assertEqual(ditch.log(), [("settle", "bob")])

    def test_a_loan_that_ended_runs_again(self):
        ditch = ditch_of("ann", ("settle", "bob"), ("lend", "ann", "bob", (1, 2), 1), "hour")
        self.assertEqual(ditch.loans(), [])
        ditch.back()
        self.assertEqual(ditch.loans(), [("ann", "bob", (1, 2), 1)])
        self.assertEqual((ditch.free("ann"), ditch.share("bob")), ((1, 2), (1, 2)))

    def test_again_behind_a_new_deed(self):
        for deed in [("settle", "zoe"), ("lose",), ("hour", "ann"), ("leave", "ann", (("zoe", 1),))]:
            ditch = ditch_of("ann", ("settle", "bob"), ("lose",), ("lose",))
            ditch.back()
            ditch.back()
            ditch.do(deed)
            known = told(ditch)
            self.assertRaises(NothingLeft, ditch.again)
            self.assertEqual(told(ditch), known)
            self.assertEqual(ditch.back(), deed)
            self.assertEqual(ditch.again(), deed)

    def test_again_behind_a_new_hour(self):
        ditch = ditch_of("ann", ("settle", "bob"))
        ditch.back()
        ditch.hour()
        self.assertRaises(NothingLeft, ditch.again)

    def test_again_behind_a_refused_deed(self):
        ditch = ditch_of("ann", ("settle", "bob"), ("lose",))
        ditch.back()
        wrong = [
            ("settle", "bob"), ("sell", "ann", "bob", (2, 1)), ("lend", "bob", "ann", (1, 2), 1),
            ("leave", "bob", ()), ("hour", "bob"),
        ]
        for deed in wrong:
            self.assertRaises(DitchError, ditch.do, deed)
        self.assertEqual(ditch.again(), ("lose",))

    def test_again_behind_questions(self):
        ditch = ditch_of("ann", ("settle", "bob"), ("lose",))
        ditch.back()
        told(ditch, 100)
        self.assertEqual(ditch.again(), ("lose",))

    def test_some_again_and_then_back(self):
        ditch = ditch_of("ann", *EACH)
        for time in range(5):
            ditch.back()
        self.assertEqual([ditch.again(), ditch.again()], EACH[3:5])
        self.assertEqual(ditch.back(), EACH[4])
        self.assertEqual(redone(ditch), EACH[4:])

    def test_going_on_behind_deeds_taken_back(self):
        ditch = ditch_of("ann", *EACH)
        for time in range(3):
            ditch.back()
        ditch.settle("cid")
        other = ditch_of("ann", *EACH[:5], ("settle", "cid"))
        self.assertEqual(told(ditch), told(other))

    def test_drawn_ways(self):
        draw = random.Random(50)
        for time in range(15):
            ditch, models, at = Ditch("ann"), [Model("ann")], 0
            for step in range(80):
                kind = draw.random()
                if kind < 0.25:
                    at = self.step_back(ditch, models, at)
                elif kind < 0.45:
                    at = self.step_again(ditch, models, at)
                else:
                    at = self.step_on(ditch, models, at, drawn_deed(draw, models[at]))
                self.assertEqual(told(ditch, 2), models[at].told(2))

    def step_back(self, ditch, models, at):
        if at == 0:
            self.assertRaises(NothingLeft, ditch.back)
            return at
        self.assertEqual(ditch.back(), models[at].deeds[-1])
        return at - 1

    def step_again(self, ditch, models, at):
        if at == len(models) - 1:
            self.assertRaises(NothingLeft, ditch.again)
            return at
        self.assertEqual(ditch.again(), models[at + 1].deeds[-1])
        return at + 1

    def step_on(self, ditch, models, at, deed):
        if models[at].refusal(deed) is not None:
            self.assertRaises(DitchError, ditch.do, deed)
            return at
        ditch.do(deed)
        del models[at + 1:]
        models.append(models[at].copy())
        models[-1].do(deed)
        return at + 1


class TwinTest(unittest.TestCase):
    def setUp(self):
        self.ditch = ditch_of("ann", *EACH)
        self.ditch.back()
        self.ditch.back()

    def test_alike_in_all_things(self):
        for other in (self.ditch.twin(), self.ditch.twin().twin()):
            self.assertEqual(told(other), told(self.ditch))
            self.assertEqual(redone(other), EACH[6:])
            for deed in reversed(EACH[:6]):
                self.assertEqual(other.back(), deed)
            self.assertEqual(told(other), told(Ditch("ann")))
            self.assertRaises(NothingLeft, other.back)
            self.assertEqual(redone(other), EACH)
        self.assertEqual(told(self.ditch), told(ditch_of("ann", *EACH[:6])))

    def test_each_goes_its_own_way(self):
        known = told(self.ditch)
        other = self.ditch.twin()
        third = other.twin()
        other.hour()
        other.sell("bob", "cid", (1, 12))
        self.assertEqual(told(self.ditch), known)
        self.assertEqual(redone(self.ditch), EACH[6:])
        self.assertEqual(told(third), known)
        self.assertEqual(redone(third), EACH[6:])
        self.assertRaises(NothingLeft, other.again)
        self.ditch.back()
        self.ditch.settle("fay")
        self.assertEqual(other.log(), EACH[:6] + [("hour", "bob"), ("sell", "bob", "cid", (1, 12))])
        self.assertEqual(told(third), known)
        third.again()
        self.assertEqual(third.log(), EACH[:7])
        self.assertEqual(self.ditch.log(), EACH[:5] + [("settle", "fay")])

    def test_back_in_one_of_them(self):
        other = self.ditch.twin()
        for time in range(6):
            other.back()
        self.assertEqual(self.ditch.log(), EACH[:6])
        self.assertEqual(redone(self.ditch), EACH[6:])
        self.assertEqual(self.ditch.again(), EACH[6])
        self.assertEqual(redone(other), EACH)

    def test_hours_in_one_of_them(self):
        other = self.ditch.twin()
        known = told(other)
        for hour in range(20):
            self.ditch.hour()
        self.assertEqual(told(other), known)


if __name__ == "__main__":
    unittest.main()
