"""Point 20: accounts of ditches, and the surveyor who finds the first wrong entry."""

import copy
import random
import unittest
from fractions import Fraction

from ditchturn.ditch import Ditch
from ditchturn.survey import account, first_wrong
from ditch_help import Model, ditch_of, drawn_moments, part, parts, redone, told
from sheet_help import EVERY_DEED, drawn_ditch, long_ditch

LITTLE = Fraction(1, 10 ** 50)


def wrong_by_words(first, entries):
    """The first wrong entry by a second reckoning."""
    model = Model(first)
    for at, (deed, lags) in enumerate(entries):
        if model.refusal(deed) is not None:
            return at
        model.do(deed)
        if lags != parts(model.lag(name) for name in model.names):
            return at
    return None


def with_entry(entries, at, deed=None, lags=None):
    """The entries, with another deed or other lags in one of them."""
    rows = copy.deepcopy(entries)
    rows[at] = (rows[at][0] if deed is None else deed, rows[at][1] if lags is None else lags)
    return rows


class AccountTest(unittest.TestCase):
    def test_every_kind_of_deed(self):
        entries = [
            (("settle", "bob"), [(0, 1), (0, 1)]),
            (("sell", "ann", "bob", (1, 2)), [(0, 1), (0, 1)]),
            (("lend", "ann", "bob", (1, 4), 12), [(0, 1), (0, 1)]),
            (("leave", "ann", (("cid", 2), ("dan", 1))), [(0, 1)] * 4),
            (("hour", "bob"), [(0, 1), (-1, 4), (1, 6), (1, 12)]),
            (("lose",), [(0, 1), (-1, 4), (1, 6), (1, 12)]),
        ]
        self.assertEqual(account(ditch_of("ann", *EVERY_DEED)), ("ann", entries))

    def test_a_ditch_without_deeds(self):
        self.assertEqual(account(Ditch("zoe")), ("zoe", []))
        self.assertIsNone(first_wrong("zoe", []))

    def test_what_was_taken_back_is_no_part_of_it(self):
        ditch = ditch_of("ann", *EVERY_DEED)
        ditch.back()
        ditch.back()
        known = told(ditch)
        self.assertEqual(account(ditch), account(ditch_of("ann", *EVERY_DEED[:4])))
        self.assertEqual(told(ditch), known)
        self.assertEqual(redone(ditch), EVERY_DEED[4:])

    def test_kinds(self):
        told_account = account(ditch_of("ann", *EVERY_DEED))
        self.assertIs(told_account.__class__, tuple)
        self.assertIs(told_account[1].__class__, list)
        for entry in told_account[1]:
            self.assertEqual((entry.__class__, len(entry)), (tuple, 2))
            self.assertEqual((entry[0].__class__, entry[1].__class__), (tuple, list))
        self.assertEqual(repr([deed for deed, lags in told_account[1]]), repr(EVERY_DEED))

    def test_no_list_is_told_twice(self):
        ditch = ditch_of("ann", *EVERY_DEED, ("lose",), ("lose",))
        lists = [ditch.lags()]
        for first, entries in (account(ditch), account(ditch)):
            lists.append(entries)
            lists.extend(lags for deed, lags in entries)
        self.assertEqual(len({id(row) for row in lists}), len(lists))

    def test_changing_what_is_told_changes_nothing(self):
        ditch = ditch_of("ann", *EVERY_DEED)
        known, kept = told(ditch), account(ditch)
        first, entries = account(ditch)
        for deed, lags in entries:
            lags[0] = (9, 1)
            lags.append((1, 1))
        entries.clear()
        self.assertEqual(told(ditch), known)
        self.assertEqual(account(ditch), kept)
        while ditch.log():
            ditch.back()
            self.assertEqual(account(ditch)[1], kept[1][:len(ditch.log())])

    def test_drawn_ditches_against_a_second_reckoning(self):
        for number, (ditch, model) in enumerate(drawn_moments(90, 8, 50)):
            self.assertEqual(account(ditch)[1][-1], (model.deeds[-1], parts(model.lag(name) for name in model.names)))
            if number % 9 == 0:
                first, entries = account(ditch)
                self.assertEqual((first, [deed for deed, lags in entries]), ("ann", model.deeds))
                self.assertIsNone(wrong_by_words(first, entries))
                self.assertIsNone(first_wrong(first, entries))


class FirstWrongTest(unittest.TestCase):
    def setUp(self):
        ditch = ditch_of("ann", *EVERY_DEED)
        for time in range(4):
            ditch.hour()
        self.entries = account(ditch)[1]

    def check(self, entries, first="ann"):
        """Tell the first wrong entry, checked against a second reckoning, the entries as they were."""
        known = copy.deepcopy(entries)
        at = first_wrong(first, entries)
        self.assertEqual(entries, known)
        self.assertEqual(at, wrong_by_words(first, entries))
        if at is not None:
            self.assertIs(at.__class__, int)
        return at

    def test_all_right(self):
        for many in range(len(self.entries) + 1):
            self.assertIsNone(self.check(self.entries[:many]))

    def test_another_first_field(self):
        self.assertEqual(self.check(self.entries, first="zoe"), 1)
        self.assertEqual(self.check(self.entries, first="bob"), 0)

    def test_a_deed_that_is_refused(self):
        refused = [
            ("settle", "ann"), ("settle", "Eva"), ("settle", ""), ("sell", "ann", "nobody", (1, 9)),
            ("sell", "ann", "ann", (1, 9)), ("sell", "ann", "bob", (0, 1)), ("sell", "ann", "bob", (-1, 2)),
            ("sell", "ann", "bob", (2, 1)), ("lend", "ann", "bob", (1, 9), 0), ("lend", "ann", "bob", (1, 9), 1000),
            ("lend", "ann", "bob", (1, 9), -10 ** 30), ("leave", "nobody", (("eva", 1),)), ("leave", "ann", ()),
            ("leave", "ann", (("ann", 1),)), ("leave", "ann", (("eva", 0),)), ("leave", "ann", (("eva", 10 ** 30),)),
            ("leave", "ann", (("eva", 1), ("eva", 1))), ("hour", "nobody"), ("hour", ""),
        ]
        for at in range(len(self.entries)):
            for deed in refused:
                self.assertEqual(self.check(with_entry(self.entries, at, deed=deed)), at)

    def test_too_many_fields(self):
        heirs = tuple((name, 1) for name in "abcdefghijklmnopqrstuvwx")
        self.assertIsNone(self.check([(("leave", "ann", heirs[:23]), [(0, 1)] * 24)]))
        self.assertEqual(self.check([(("leave", "ann", heirs), [(0, 1)] * 25)]), 0)

    def test_the_hour_told_for_another_field(self):
        for at, (deed, lags) in enumerate(self.entries):
            if deed[0] == "hour":
                for name in ("ann", "bob", "cid", "dan", "eva"):
                    entries = with_entry(self.entries, at, deed=("hour", name))
                    self.assertEqual(self.check(entries), None if name == deed[1] else at)

    def test_a_deed_that_is_wrong_only_later(self):
        # Of the sale and the loan no lag tells at once, but the hour behind them does.
        self.assertEqual(self.check(with_entry(self.entries, 1, deed=("sell", "ann", "bob", (3, 5)))), 4)
        self.assertEqual(self.check(with_entry(self.entries, 2, deed=("lend", "ann", "bob", (1, 5), 12))), 4)
        self.assertEqual(self.check(with_entry(self.entries, 2, deed=("lend", "ann", "bob", (1, 4), 2))), 6)

    def test_an_entry_left_out(self):
        # Without the settling there is no bob; without the sale the hour is cid's; without
        # the loan or the leaving the lags are others; and the lost hour leaves no trace.
        for at, wrong in enumerate([0, 3, 3, 3, 4, None, 6, 7, 8]):
            self.assertEqual(self.check(self.entries[:at] + self.entries[at + 1:]), wrong)

    def test_an_entry_doubled(self):
        for at in range(len(self.entries)):
            self.check(self.entries[:at + 1] + self.entries[at:])
        self.assertEqual(self.check(self.entries[:1] + self.entries), 1)
        self.assertEqual(self.check(self.entries[:2] + self.entries[1:]), 3)
        self.assertEqual(self.check(self.entries[:4] + self.entries[3:]), 4)
        self.assertEqual(self.check(self.entries[:5] + self.entries[4:]), 5)
        self.assertIsNone(self.check(self.entries[:6] + self.entries[5:]))

    def test_an_entry_exchanged_with_the_next(self):
        for at in range(len(self.entries) - 1):
            entries = copy.deepcopy(self.entries)
            entries[at], entries[at + 1] = entries[at + 1], entries[at]
            self.check(entries)
        swapped = [self.entries[1], self.entries[0]] + self.entries[2:]
        self.assertEqual(self.check(swapped), 0)

    def test_a_lag_changed_by_a_little_at_any_place(self):
        for at, (deed, lags) in enumerate(self.entries):
            for place in range(len(lags)):
                for little in (LITTLE, -LITTLE, Fraction(1), Fraction(-1)):
                    row = list(lags)
                    row[place] = part(Fraction(*row[place]) + little)
                    self.assertEqual(self.check(with_entry(self.entries, at, lags=row)), at)

    def test_two_lags_exchanged(self):
        for at, (deed, lags) in enumerate(self.entries):
            row = lags[::-1]
            self.assertEqual(self.check(with_entry(self.entries, at, lags=row)), None if row == lags else at)

    def test_a_lag_left_out_or_put_in(self):
        for at, (deed, lags) in enumerate(self.entries):
            for place in range(len(lags) + 1):
                row = lags[:place] + [(0, 1)] + lags[place:]
                self.assertEqual(self.check(with_entry(self.entries, at, lags=row)), at)
                if place < len(lags):
                    self.assertEqual(self.check(with_entry(self.entries, at, lags=lags[:place] + lags[place + 1:])), at)
            self.assertEqual(self.check(with_entry(self.entries, at, lags=[])), at)

    def test_the_first_of_several(self):
        entries = with_entry(with_entry(self.entries, 7, lags=[]), 3, deed=("hour", "nobody"))
        self.assertEqual(self.check(entries), 3)
        self.assertEqual(self.check(with_entry(entries, 0, lags=[(0, 1)])), 0)

    def test_400_entries(self):
        for ditch in (long_ditch(), drawn_ditch(91, 400)):
            first, entries = account(ditch)
            self.assertEqual(len(entries), 400)
            self.assertIsNone(first_wrong(first, entries))
            lags = list(entries[399][1])
            lags[0] = part(Fraction(*lags[0]) + LITTLE)
            self.assertEqual(first_wrong(first, with_entry(entries, 399, lags=lags)), 399)
            self.assertEqual(first_wrong(first, with_entry(entries, 399, deed=("hour", "nobody"))), 399)

    def test_drawn_changes_against_a_second_reckoning(self):
        draw = random.Random(92)
        met = {}
        for seed in range(20):
            first, entries = account(drawn_ditch(seed, 25))
            for time in range(12):
                at = self.check(self.changed(draw, entries), first)
                met[at] = met.get(at, 0) + 1
        self.assertGreater(len(met), 20)

    def changed(self, draw, entries):
        """The entries with one change."""
        rows = copy.deepcopy(entries)
        at = draw.randrange(len(rows) - 1)
        kind = draw.choice(["out", "double", "exchange", "deed", "lag"])
        if kind == "out":
            del rows[at]
        elif kind == "double":
            rows.insert(at, copy.deepcopy(rows[at]))
        elif kind == "exchange":
            rows[at], rows[at + 1] = rows[at + 1], rows[at]
        elif kind == "deed":
            rows[at] = (draw.choice(rows)[0], rows[at][1])
        else:
            place = draw.randrange(len(rows[at][1]))
            rows[at][1][place] = part(Fraction(*rows[at][1][place]) + LITTLE)
        return rows

    def test_the_handed_entries_are_not_kept(self):
        first_wrong("ann", self.entries)
        known = copy.deepcopy(self.entries)
        for deed, lags in self.entries:
            lags.clear()
        self.assertEqual(first_wrong("ann", self.entries), 0)
        self.assertIsNone(first_wrong("ann", known))

    def test_arguments_by_name(self):
        self.assertIsNone(first_wrong(first="ann", entries=account(ditch=Ditch("ann"))[1]))


if __name__ == "__main__":
    unittest.main()
