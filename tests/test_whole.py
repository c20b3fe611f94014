"""Over the whole program: the interface, the class of each refusal, and lists that are told once."""

import importlib
import inspect
import unittest

from ditchturn import errors
from ditchturn.bounds import behind
from ditchturn.ditch import Ditch, worst
from ditchturn.foe import foe_lags, foe_shares
from ditchturn.lags import dealt, raised
from ditchturn.parts import part_read
from ditchturn.season import planned, windows
from ditchturn.sheets import read, written
from ditchturn.survey import account, first_wrong
from ditchturn.valley import Valley
from ditch_help import ditch_of
from sheet_help import EVERY_DEED

INTERFACE = {
    "parts": {
        "lowest": "top bottom", "plus": "a b", "minus": "a b", "times": "a b", "over": "a b", "total": "row",
        "below": "a b", "floor_of": "a", "ceil_of": "a", "part_text": "a", "part_read": "text",
    },
    "bounds": {"behind": "many", "before": "many", "most": "many k", "wait": "many share", "foe_hours": "many"},
    "lags": {"raised": "lags shares", "turn_of": "row", "dealt": "lags shares", "greatest": "lags k", "keeps": "lags"},
    "foe": {"foe_shares": "many turns", "foe_lags": "many turns"},
    "ditch": {"Ditch": "first", "worst": "many"},
    "season": {"windows": "rows", "planned": "rows lost"},
    "sheets": {"written": "ditch", "read": "text"},
    "survey": {"account": "ditch", "first_wrong": "first entries"},
    "valley": {"Valley": ""},
}
METHODS = {
    Ditch: {
        "settle": "name", "sell": "giver taker part", "lend": "giver taker part hours", "leave": "name heirs",
        "lose": "", "hour": "", "do": "deed", "back": "", "again": "", "twin": "", "fields": "", "owned": "name",
        "free": "name", "share": "name", "lag": "name", "gain": "name", "turns": "name", "lags": "", "loans": "",
        "log": "", "given": "", "lost": "", "due": "", "shares_ahead": "many", "coming": "many",
    },
    Valley: {"tell": "line", "names": "", "ditch": "name"},
}


def full_ditch():
    """A ditch with 24 fields."""
    return ditch_of("ann", ("leave", "ann", tuple((name, 1) for name in "abcdefghijklmnopqrstuvw")))


def pair_ditch():
    """A ditch with two fields, the second of which owns nothing."""
    return ditch_of("ann", ("settle", "bob"))


# Every way to each refusal, each a deed of its own.
REFUSALS = {
    "BadPart": [lambda: part_read("2/4"), lambda: part_read(""), lambda: part_read("1/" + "9" * 401)],
    "BadName": [
        lambda: Ditch("Ann"), lambda: Ditch("ann").settle(""), lambda: Ditch("ann").leave("ann", [("Bob", 1)]),
        lambda: Ditch("ann").do(("settle", "a b")), lambda: Ditch("ann").do(("leave", "ann", (("Bob", 1),))),
    ],
    "Taken": [
        lambda: Ditch("ann").settle("ann"), lambda: Ditch("ann").leave("ann", [("ann", 1)]),
        lambda: Ditch("ann").leave("ann", [("bob", 1), ("bob", 1)]), lambda: Ditch("ann").do(("settle", "ann")),
    ],
    "Full": [
        lambda: full_ditch().settle("zoe"), lambda: full_ditch().leave("ann", [("zoe", 1)]),
        lambda: full_ditch().do(("settle", "zoe")),
    ],
    "NoField": [
        lambda: Ditch("ann").sell("ann", "bob", (1, 2)), lambda: Ditch("ann").lend("bob", "ann", (1, 2), 1),
        lambda: Ditch("ann").leave("bob", [("cid", 1)]), lambda: Ditch("ann").owned("bob"),
        lambda: Ditch("ann").free("bob"), lambda: Ditch("ann").share("bob"), lambda: Ditch("ann").lag("bob"),
        lambda: Ditch("ann").gain("bob"), lambda: Ditch("ann").turns("bob"),
    ],
    "Same": [
        lambda: Ditch("ann").sell("ann", "ann", (1, 2)), lambda: Ditch("ann").lend("ann", "ann", (1, 2), 1),
        lambda: Ditch("ann").do(("sell", "ann", "ann", (1, 2))),
    ],
    "NoPart": [
        lambda: pair_ditch().sell("ann", "bob", (0, 1)), lambda: pair_ditch().lend("ann", "bob", (-1, 2), 1),
        lambda: pair_ditch().do(("sell", "ann", "bob", (0, 1))),
    ],
    "TooMuch": [
        lambda: pair_ditch().sell("bob", "ann", (1, 2)), lambda: pair_ditch().lend("bob", "ann", (1, 2), 1),
        lambda: pair_ditch().do(("sell", "ann", "bob", (2, 1))),
    ],
    "NoHours": [
        lambda: pair_ditch().lend("ann", "bob", (1, 2), 0), lambda: pair_ditch().lend("ann", "bob", (1, 2), 1000),
        lambda: pair_ditch().do(("lend", "ann", "bob", (1, 2), -1)),
    ],
    "NoHeirs": [lambda: Ditch("ann").leave("ann", []), lambda: Ditch("ann").do(("leave", "ann", ()))],
    "NoWeight": [
        lambda: Ditch("ann").leave("ann", [("bob", 0)]), lambda: Ditch("ann").leave("ann", [("bob", 1000000)]),
        lambda: Ditch("ann").do(("leave", "ann", (("bob", -1),))),
    ],
    "WrongTurn": [lambda: pair_ditch().do(("hour", "bob")), lambda: Ditch("ann").do(("hour", "nobody"))],
    "NothingLeft": [lambda: Ditch("ann").back(), lambda: Ditch("ann").again()],
    "BadMany": [
        lambda: Ditch("ann").shares_ahead(-1), lambda: Ditch("ann").shares_ahead(101),
        lambda: Ditch("ann").coming(-1), lambda: Ditch("ann").coming(101),
    ],
    "BadSheet": [
        lambda: read(""), lambda: read("ditch Ann"), lambda: read("ditch ann\n"), lambda: read("ditch ann\nsettle ann"),
        lambda: read("ditch ann\nsell ann bob 2/4"),
    ],
    "NoDitch": [lambda: Valley().ditch("north"), lambda: Valley().ditch("")],
}


class InterfaceTest(unittest.TestCase):
    def words(self, thing):
        """The names of what a def or a class takes, but for the object's own."""
        return [word for word in inspect.signature(thing).parameters if word != "self"]

    def test_defs_and_classes(self):
        for file, things in INTERFACE.items():
            module = importlib.import_module("ditchturn." + file)
            for name, words in things.items():
                self.assertEqual(self.words(getattr(module, name)), words.split(), (file, name))
                self.assertEqual(getattr(module, name).__module__, module.__name__)

    def test_methods_stand_in_their_classes(self):
        for kind, methods in METHODS.items():
            for name, words in methods.items():
                self.assertTrue(inspect.isfunction(kind.__dict__[name]), name)
                self.assertEqual(self.words(kind.__dict__[name]), words.split(), name)


class RefusalsTest(unittest.TestCase):
    def test_each_refusal_has_a_way_to_it(self):
        under = [kind.__name__ for kind in errors.DitchError.__subclasses__()]
        self.assertEqual(sorted(REFUSALS), sorted(under))

    def test_each_is_just_of_its_class(self):
        for name, ways in REFUSALS.items():
            for number, way in enumerate(ways):
                with self.subTest(name=name, number=number):
                    with self.assertRaises(ValueError) as caught:
                        way()
                    kinds = [kind.__name__ for kind in type(caught.exception).__mro__]
                    self.assertEqual(kinds[:4], [name, "DitchError", "ValueError", "Exception"])
                    self.assertIsInstance(caught.exception, errors.DitchError)
                    for other in REFUSALS:
                        self.assertEqual(isinstance(caught.exception, getattr(errors, other)), other == name)

    def test_a_bad_sheet_has_its_row(self):
        with self.assertRaises(errors.BadSheet) as caught:
            read("ditch ann\nlose\nhour bob\nlose")
        self.assertEqual(caught.exception.row, 2)


class ListsTest(unittest.TestCase):
    def lists_of(self, told):
        """Every list within what is told, as often as it stands there."""
        if isinstance(told, (list, tuple)):
            inner = [row for part in told for row in self.lists_of(part)]
            return inner + ([told] if isinstance(told, list) else [])
        return []

    def all_told(self, ditch, valley, rows, lost):
        answers = [
            ditch.fields(), ditch.lags(), ditch.loans(), ditch.log(), ditch.shares_ahead(4), ditch.coming(4),
            account(ditch), valley.names(), valley.ditch("north").lags(), valley.ditch("north").fields(),
            windows(rows), planned(rows, lost), read(written(ditch)).lags(), worst(3).lags(),
            foe_shares(3, [0, 1]), foe_lags(3, [0, 1]), raised([(0, 1)], [(1, 1)]), dealt([(0, 1)], [(1, 1)]),
        ]
        return self.lists_of(answers)[:-1]

    def test_no_list_is_told_twice_or_handed_in(self):
        ditch = ditch_of("ann", *EVERY_DEED, ("lose",))
        valley = Valley()
        valley.tell("begin north ann")
        rows, lost = [[(1, 5)] * 5 for hour in range(3)], [1]
        lists = self.all_told(ditch, valley, rows, lost) + self.all_told(ditch, valley, rows, lost) + [rows, lost, *rows]
        self.assertGreater(len(lists), 50)
        self.assertEqual(len({id(row) for row in lists}), len(lists))

    def test_changing_them_changes_nothing(self):
        ditch = ditch_of("ann", *EVERY_DEED, ("lose",))
        valley = Valley()
        valley.tell("begin north ann")
        rows, lost = [[(1, 5)] * 5 for hour in range(3)], [1]
        known = self.all_told(ditch, valley, rows, lost)
        for row in self.all_told(ditch, valley, rows, lost):
            row.append(None)
            row.reverse()
            row[-1] = None
        self.assertEqual(self.all_told(ditch, valley, rows, lost), known)
        self.assertEqual((rows, lost), ([[(1, 5)] * 5] * 3, [1]))


class TogetherTest(unittest.TestCase):
    def test_a_valleys_ditch_on_a_sheet_and_in_an_account(self):
        valley = Valley()
        for line in ("begin north ann", "settle north bob", "sell north ann bob 2/5", "hours north 9", "back north"):
            valley.tell(line)
        ditch = valley.ditch("north")
        turns = ["ann", "bob", "ann", "bob", "ann", "ann", "bob", "ann"]
        rows = ["ditch ann", "settle bob", "sell ann bob 2/5"] + ["hour " + name for name in turns]
        self.assertEqual(written(ditch), "\n".join(rows))
        self.assertEqual(account(read(written(ditch))), account(ditch))
        self.assertIsNone(first_wrong(*account(ditch)))

    def test_the_worst_ditch_on_a_sheet_and_in_an_account(self):
        for many in range(2, 13):
            ditch = worst(many)
            self.assertIn(behind(many), read(written(ditch)).lags())
            first, entries = account(ditch)
            self.assertIsNone(first_wrong(first, entries))
            self.assertIn(behind(many), entries[-1][1])


if __name__ == "__main__":
    unittest.main()
