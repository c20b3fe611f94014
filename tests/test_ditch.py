"""Points 1 and 10: names, fields in their order, what they own, have free and share; told lists."""

import inspect
import unittest
from fractions import Fraction

from ditchturn.ditch import Ditch
from ditchturn.errors import BadName, NoField
from ditch_help import ditch_of, drawn_moments, told

WRONG_NAMES = ["", "abcdefghi", "Ann", "aNn", "ann1", "a b", " ann", "ann ", "a\nb", "ann\n", "\n", "a-b", "{", "`", "~"]


def sum_of(row):
    return sum(Fraction(*number) for number in row)


class BeginTest(unittest.TestCase):
    def test_one_field_owns_the_whole_water(self):
        ditch = Ditch("ann")
        self.assertEqual(ditch.fields(), ["ann"])
        self.assertEqual(ditch.owned("ann"), (1, 1))
        self.assertEqual(ditch.free("ann"), (1, 1))
        self.assertEqual(ditch.share("ann"), (1, 1))
        self.assertEqual((ditch.lag("ann"), ditch.gain("ann"), ditch.turns("ann")), ((0, 1), (0, 1), 0))
        self.assertEqual((ditch.lags(), ditch.loans(), ditch.log()), ([(0, 1)], [], []))
        self.assertEqual((ditch.given(), ditch.lost(), ditch.due()), (0, 0, "ann"))

    def test_names(self):
        for name in ("a", "z", "abcdefgh", "zzzzzzzz", "mnop"):
            self.assertEqual(Ditch(name).fields(), [name])
        for name in WRONG_NAMES:
            with self.assertRaises(BadName):
                Ditch(name)
        for name in WRONG_NAMES:
            with self.assertRaises(BadName):
                Ditch("ann").settle(name)

    def test_one_field_alone_has_every_hour(self):
        ditch = Ditch("ann")
        for hour in range(1, 6):
            self.assertEqual(ditch.hour(), "ann")
            self.assertEqual((ditch.lag("ann"), ditch.gain("ann"), ditch.turns("ann")), ((0, 1), (hour, 1), hour))

    def test_the_class_has_its_methods_itself(self):
        words = (
            "settle sell lend leave lose hour do back again twin fields owned free share lag gain turns"
            " lags loans log given lost due shares_ahead coming"
        )
        for word in words.split():
            self.assertTrue(inspect.isfunction(Ditch.__dict__[word]), word)

    def test_arguments_by_name(self):
        ditch = Ditch(first="ann")
        ditch.settle(name="bob")
        ditch.sell(giver="ann", taker="bob", part=(1, 4))
        ditch.lend(giver="ann", taker="bob", part=(1, 4), hours=2)
        ditch.leave(name="ann", heirs=[("cid", 1)])
        ditch.do(deed=("lose",))
        self.assertEqual(len(ditch.shares_ahead(many=3)), len(ditch.coming(many=3)))
        for word in ("owned", "free", "share", "lag", "gain", "turns"):
            getattr(ditch, word)(name="ann")


class FieldsTest(unittest.TestCase):
    def test_in_the_order_of_settling(self):
        ditch = ditch_of(
            "mia", ("settle", "zoe"), ("settle", "ann"), ("leave", "mia", (("leo", 1), ("bob", 2))), ("settle", "kim")
        )
        self.assertEqual(ditch.fields(), ["mia", "zoe", "ann", "leo", "bob", "kim"])
        self.assertEqual(ditch.lags(), [(0, 1)] * 6)

    def test_owned_free_and_share(self):
        ditch = ditch_of("ann", ("settle", "bob"), ("settle", "cid"), ("sell", "ann", "bob", (1, 3)))
        ditch.lend("ann", "cid", (1, 6), 5)
        ditch.lend("bob", "ann", (1, 4), 2)
        ditch.lend("ann", "bob", (1, 12), 1)
        self.assertEqual([ditch.owned(name) for name in ditch.fields()], [(2, 3), (1, 3), (0, 1)])
        self.assertEqual([ditch.free(name) for name in ditch.fields()], [(5, 12), (1, 12), (0, 1)])
        self.assertEqual([ditch.share(name) for name in ditch.fields()], [(2, 3), (1, 6), (1, 6)])

    def test_loans_in_the_order_of_lending_with_the_hours_left(self):
        ditch = ditch_of("ann", ("settle", "bob"), ("lend", "ann", "bob", (1, 6), 5), ("lend", "ann", "bob", (1, 7), 3))
        ditch.lend("ann", "bob", (1, 6), 5)
        rows = [("ann", "bob", (1, 6), 5), ("ann", "bob", (1, 7), 3), ("ann", "bob", (1, 6), 5)]
        self.assertEqual(ditch.loans(), rows)
        ditch.hour()
        ditch.lose()
        ditch.sell("ann", "bob", (1, 9))
        rows = [("ann", "bob", (1, 6), 3), ("ann", "bob", (1, 7), 1), ("ann", "bob", (1, 6), 3)]
        self.assertEqual(ditch.loans(), rows)
        ditch.lose()
        self.assertEqual(ditch.loans(), [("ann", "bob", (1, 6), 2), ("ann", "bob", (1, 6), 2)])

    def test_strange_names(self):
        ditch = ditch_of("ann", ("settle", "bob"))
        for word in ("owned", "free", "share", "lag", "gain", "turns"):
            for name in ("cid", "", "Ann", "an", "annn", "no name"):
                with self.assertRaises(NoField):
                    getattr(ditch, word)(name)

    def test_sums_behind_any_deeds(self):
        for ditch, model in drawn_moments(20, 25, 60):
            self.check_sums(ditch)

    def check_sums(self, ditch):
        names = ditch.fields()
        self.assertEqual(sum_of(ditch.owned(name) for name in names), 1)
        self.assertEqual(sum_of(ditch.share(name) for name in names), 1)
        for name in names:
            owned, free, share = [Fraction(*ask(name)) for ask in (ditch.owned, ditch.free, ditch.share)]
            self.assertGreaterEqual(min(owned, free, share), 0)
            self.assertEqual(owned - free, sum_of(loan[2] for loan in ditch.loans() if loan[0] == name))
            self.assertEqual(share - free, sum_of(loan[2] for loan in ditch.loans() if loan[1] == name))


class KindsTest(unittest.TestCase):
    def setUp(self):
        self.ditch = ditch_of(
            "ann", ("settle", "bob"), ("sell", "ann", "bob", (1, 3)), ("lend", "ann", "bob", (1, 3), 9), "hour", "hour"
        )
        self.ditch.leave("bob", [("cid", 3), ("dan", 4)])

    def test_kinds_of_what_deeds_tell(self):
        ditch = self.ditch
        self.assertIsNone(ditch.settle("eva"))
        self.assertIsNone(ditch.sell("cid", "eva", (1, 14)))
        self.assertIsNone(ditch.lend("dan", "eva", (1, 14), 3))
        self.assertIsNone(ditch.leave("dan", [("fay", 1)]))
        self.assertIsNone(ditch.lose())
        self.assertIn(ditch.hour(), ditch.fields())
        deeds = [
            ("settle", "gil"), ("sell", "cid", "gil", (1, 100)), ("lend", "cid", "gil", (1, 100), 1),
            ("leave", "cid", (("hal", 1),)), ("lose",),
        ]
        for deed in deeds:
            self.assertIsNone(ditch.do(deed))
        name = ditch.due()
        self.assertEqual(ditch.do(("hour", name)), name)

    def test_kinds_of_answers(self):
        ditch = self.ditch
        for word in ("fields", "lags", "loans", "log"):
            self.assertIs(getattr(ditch, word)().__class__, list)
        for word in ("given", "lost"):
            self.assertIs(getattr(ditch, word)().__class__, int)
        self.assertIs(ditch.turns("ann").__class__, int)
        for word in ("owned", "free", "share", "lag", "gain"):
            for name in ditch.fields():
                self.check_part(getattr(ditch, word)(name))
        for lag in ditch.lags():
            self.check_part(lag)
        self.assertIs(ditch.twin().__class__, Ditch)

    def check_part(self, number):
        self.assertIs(number.__class__, tuple)
        self.assertEqual(number, (Fraction(*number).numerator, Fraction(*number).denominator))
        self.assertEqual([side.__class__ for side in number], [int, int])


class OwnListsTest(unittest.TestCase):
    def setUp(self):
        self.ditch = ditch_of("ann", ("settle", "bob"), ("lend", "ann", "bob", (1, 3), 9), "hour", ("lose",))

    def lists(self):
        ditch = self.ditch
        rows = ditch.shares_ahead(3)
        return [ditch.fields(), ditch.lags(), ditch.loans(), ditch.log(), ditch.coming(3), rows] + rows

    def test_no_list_is_told_twice(self):
        every = self.lists() + self.lists() + [self.ditch.twin().lags(), self.ditch.twin().log()]
        self.assertEqual(len({id(row) for row in every}), len(every))

    def test_changing_a_told_list_changes_nothing(self):
        known = told(self.ditch)
        for row in self.lists():
            row.reverse()
            row.append(None)
            row[0] = None
        self.assertEqual(told(self.ditch), known)

    def test_the_handed_heirs_are_neither_changed_nor_kept(self):
        heirs = [("cid", 1), ("dan", 2)]
        self.ditch.leave("ann", heirs)
        self.assertEqual(heirs, [("cid", 1), ("dan", 2)])
        known = told(self.ditch)
        heirs[0] = ("eva", 5)
        heirs.clear()
        self.assertEqual(told(self.ditch), known)
        self.assertEqual(self.ditch.log()[-1], ("leave", "ann", (("cid", 1), ("dan", 2))))
        self.ditch.back()
        self.ditch.again()
        self.assertEqual(told(self.ditch), known)

    def test_refused_heirs_are_not_changed(self):
        heirs = [("cid", 1), ("cid", 2)]
        with self.assertRaises(ValueError):
            self.ditch.leave("ann", heirs)
        self.assertEqual(heirs, [("cid", 1), ("cid", 2)])


if __name__ == "__main__":
    unittest.main()
