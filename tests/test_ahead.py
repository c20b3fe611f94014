"""Point 15: what comes, if no other deed is done."""

import unittest

from ditchturn.errors import BadMany
from ditch_help import ditch_of, drawn_moments, redone, told


def lending_ditch():
    """A ditch with loans that end at several hours within the next hundred."""
    ditch = ditch_of("ann", ("settle", "bob"), ("settle", "cid"), ("sell", "ann", "bob", (1, 5)), "hour")
    for part, hours in [((1, 10), 1), ((1, 20), 7), ((1, 30), 50), ((1, 40), 99), ((1, 50), 100), ((1, 60), 101)]:
        ditch.lend("ann", "cid", part, hours)
    ditch.lend("bob", "ann", (1, 7), 7)
    return ditch


class AheadTest(unittest.TestCase):
    def test_none_and_one(self):
        ditch = lending_ditch()
        self.assertEqual((ditch.shares_ahead(0), ditch.coming(0)), ([], []))
        self.assertEqual(ditch.shares_ahead(1), [[ditch.share(name) for name in ditch.fields()]])
        self.assertEqual(ditch.coming(1), [ditch.due()])

    def test_counts_that_are_refused(self):
        ditch = lending_ditch()
        known = told(ditch)
        for many in (-1, 101, -100, 10 ** 30):
            self.assertRaises(BadMany, ditch.shares_ahead, many)
            self.assertRaises(BadMany, ditch.coming, many)
        self.assertEqual(told(ditch), known)

    def test_a_loan_that_ends_on_the_way(self):
        ditch = ditch_of("ann", ("settle", "bob"), ("lend", "ann", "bob", (1, 1), 2))
        rows = [[(0, 1), (1, 1)], [(0, 1), (1, 1)], [(1, 1), (0, 1)], [(1, 1), (0, 1)]]
        self.assertEqual(ditch.shares_ahead(4), rows)
        self.assertEqual(ditch.coming(4), ["bob", "bob", "ann", "ann"])

    def test_against_the_hours_then_dealt(self):
        ditch = lending_ditch()
        rows, names = ditch.shares_ahead(100), ditch.coming(100)
        self.assertEqual((len(rows), len(names)), (100, 100))
        for shares, name in zip(rows, names):
            self.assertEqual([ditch.share(field) for field in ditch.fields()], shares)
            self.assertEqual(ditch.due(), name)
            self.assertEqual(ditch.hour(), name)
        self.assertEqual([loan[3] for loan in ditch.loans()], [1])

    def test_asked_twice_and_nothing_changes(self):
        ditch = lending_ditch()
        ditch.back()
        known, undone = told(ditch), redone(ditch)
        rows, names = ditch.shares_ahead(100), ditch.coming(100)
        self.assertEqual((ditch.shares_ahead(100), ditch.coming(100)), (rows, names))
        self.assertEqual(told(ditch), known)
        self.assertEqual(redone(ditch), undone)

    def test_the_told_lists_changed_between(self):
        ditch = ditch_of("ann", ("settle", "bob"), ("sell", "ann", "bob", (1, 4)))
        rows, names = ditch.shares_ahead(5), ditch.coming(5)
        rows[0][0] = (9, 1)
        self.assertEqual(rows[1:], [[(3, 4), (1, 4)]] * 4)
        rows[1].clear()
        names.clear()
        rows.pop()
        self.assertEqual(ditch.shares_ahead(5), [[(3, 4), (1, 4)]] * 5)
        self.assertEqual(ditch.coming(5), ["ann", "ann", "bob", "ann", "ann"])
        self.assertEqual(ditch.share("ann"), (3, 4))

    def test_less_is_the_beginning_of_more(self):
        ditch = lending_ditch()
        for many in range(0, 101, 7):
            self.assertEqual(ditch.shares_ahead(many), ditch.shares_ahead(100)[:many])
            self.assertEqual(ditch.coming(many), ditch.coming(100)[:many])

    def test_drawn_ditches(self):
        for ditch, model in drawn_moments(60, 12, 40):
            rows, names = ditch.shares_ahead(12), ditch.coming(12)
            other = ditch.twin()
            for shares, name in zip(rows, names):
                self.assertEqual([other.share(field) for field in other.fields()], shares)
                self.assertEqual(other.hour(), name)


if __name__ == "__main__":
    unittest.main()
