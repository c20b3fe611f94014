"""Point 21: the lines of a valley, their answers and refusals, its ditches."""

import inspect
import random
import unittest
from fractions import Fraction

from ditchturn.ditch import Ditch
from ditchturn.errors import NoDitch
from ditchturn.valley import Valley
from ditch_help import ditch_of, drawn_heir, drawn_name, drawn_part, told
from valley_help import NO_NAMES, SecondValley, ValleyCase, all_told, text_of


class LinesTest(ValleyCase):
    def test_deeds(self):
        self.check(
            ("settle north cid", "ok"), ("sell north ann cid 1/6", "ok"), ("lend north ann bob 1/4 3", "ok"),
            ("leave north cid dan 2 eva 1", "ok"), ("lose north", "ok"), ("hour north", "bob"), ("hour north", "ann"),
        )
        deeds = [
            ("settle", "bob"), ("sell", "ann", "bob", (1, 3)), ("settle", "cid"), ("sell", "ann", "cid", (1, 6)),
            ("lend", "ann", "bob", (1, 4), 3), ("leave", "cid", (("dan", 2), ("eva", 1))), ("lose",), ("hour", "bob"),
            ("hour", "ann"),
        ]
        ditch = self.valley.ditch("north")
        self.assertEqual(repr(ditch.log()), repr(deeds))
        self.assertEqual(told(ditch), told(ditch_of("ann", *deeds)))

    def test_questions(self):
        self.check(
            ("lend north bob ann 1/12 9", "ok"), ("share north ann", "3/4"), ("share north bob", "1/4"),
            ("free north ann", "2/3"), ("free north bob", "1/4"), ("lag north ann", "0/1"), ("turns north ann", "0"),
            ("due north", "ann"), ("hour north", "ann"), ("lag north ann", "-1/4"), ("lag north bob", "1/4"),
            ("turns north ann", "1"), ("turns north bob", "0"), ("due north", "ann"), ("hour north", "ann"),
            ("due north", "bob"), ("hour north", "bob"), ("turns north ann", "2"),
        )

    def test_questions_change_nothing(self):
        self.check(("back north", "sell"))
        known = all_told(self.valley)
        for line in ("share north ann", "free north ann", "lag north ann", "turns north ann", "due north"):
            self.valley.tell(line)
            self.assertEqual(all_told(self.valley), known)
        self.check(("again north", "sell"))

    def test_many_turns(self):
        for time in range(12):
            self.valley.tell("hours north 99")
        self.check(("turns north ann", "792"), ("turns north bob", "396"))

    def test_whole_shares(self):
        self.check(
            ("begin south zoe", "ok"), ("share south zoe", "1/1"), ("free south zoe", "1/1"), ("hour south", "zoe"),
            ("lag south zoe", "0/1"),
        )

    def test_back_and_again(self):
        self.check(
            ("lend north ann bob 1/4 1", "ok"), ("leave north bob cid 1", "ok"), ("lose north", "ok"),
            ("hour north", "ann"), ("back north", "hour"), ("back north", "lose"), ("back north", "leave"),
            ("back north", "lend"), ("back north", "sell"), ("back north", "settle"), ("back north", "no nothingleft"),
            ("again north", "settle"), ("again north", "sell"), ("again north", "lend"), ("again north", "leave"),
            ("again north", "lose"), ("again north", "hour"), ("again north", "no nothingleft"),
            ("back north", "hour"), ("hour north", "ann"), ("again north", "no nothingleft"),
        )

    def test_again_behind_what_was_refused(self):
        self.check(
            ("back north", "sell"), ("settle north bob", "no taken"), ("hours north 0", "no badmany"),
            ("no line", "no line"), ("begin north eva", "no taken"), ("again north", "sell"),
        )

    def test_each_of_several_hours_is_a_deed(self):
        self.check(
            ("hours north 3", "ann bob ann"), ("back north", "hour"), ("back north", "hour"), ("turns north ann", "1"),
            ("turns north bob", "0"), ("again north", "hour"), ("hours north 2", "ann ann"),
            ("again north", "no nothingleft"),
        )

    def test_counts_of_hours(self):
        known = self.valley.ditch("north")
        self.check(("hours north 0", "no badmany"), ("hours north 100", "no badmany"), ("hours north 1", "ann"))
        self.check(("hours north 999999999", "no badmany"))
        answer = self.valley.tell("hours north 99")
        self.assertEqual(answer, " ".join(known.coming(100)[1:]))
        self.assertEqual(self.valley.ditch("north").given(), 100)
        self.assertEqual(len(self.valley.ditch("north").log()), 102)

    def test_loans_that_end_within_several_hours(self):
        self.check(("lend north ann bob 2/3 2", "ok"), ("hours north 4", "bob bob ann bob"), ("share north bob", "1/3"))

    def test_begin(self):
        self.check(
            ("begin north eva", "no taken"), ("begin south ann", "ok"), ("begin abcdefgh z", "ok"), ("begin z z", "ok"),
            ("due z", "z"), ("begin south ann", "no taken"),
        )
        for name in NO_NAMES:
            self.check((f"begin {name} ann", "no badname"), (f"begin west {name}", "no badname"))
            self.check((f"begin north {name}", "no badname"), (f"begin {name} {name}", "no badname"))
        self.assertEqual(self.valley.names(), ["north", "south", "abcdefgh", "z"])

    def test_parts_below_nought_are_parts(self):
        self.check(("sell north ann bob -1/2", "no nopart"), ("lend north ann bob -3/1 3", "no nopart"))

    def test_parts_of_400_figures(self):
        nines = "9" * 400
        self.check((f"sell north ann bob 1/{nines}", "ok"), (f"sell north ann bob {nines}/1", "no toomuch"))
        self.check((f"lend north ann bob 1/{nines} 5", "ok"))
        bottom = 10 ** 400 - 1
        self.assertEqual(self.valley.ditch("north").loans(), [("ann", "bob", (1, bottom), 5)])
        self.assertEqual(self.valley.tell("free north bob"), text_of(Fraction(1, 3) + Fraction(1, bottom)))
        self.assertGreater(len(self.valley.tell("share north ann")), 800)

    def test_long_numbers_in_answers(self):
        parts = [10 ** 399 - count for count in (1, 3, 7, 9, 11, 13)]
        for bottom in parts:
            self.assertEqual(self.valley.tell(f"sell north ann bob 1/{bottom}"), "ok")
        ditch = self.valley.ditch("north")
        top, bottom = ditch.share("ann")
        self.assertGreater(bottom, 10 ** 1500)
        self.assertEqual(self.valley.tell("share north ann"), f"{top}/{bottom}")


class RefusalsTest(ValleyCase):
    def test_settle(self):
        for name in NO_NAMES:
            self.check((f"settle north {name}", "no badname"))
        self.check(("settle north bob", "no taken"))
        for name in "abcdefghijklmnopqrstuv":
            self.valley.tell(f"settle north {name}")
        self.check(("settle north w", "no full"), ("settle north a", "no taken"), ("settle north W", "no badname"))

    def test_sell(self):
        for name in NO_NAMES + ["nobody"]:
            self.check((f"sell north {name} bob 1/9", "no nofield"), (f"sell north ann {name} 1/9", "no nofield"))
        self.check(
            ("sell north nobody nobody 0/1", "no nofield"), ("sell north ann ann 0/1", "no same"),
            ("sell north ann bob 0/1", "no nopart"), ("sell north ann bob 667/1000", "no toomuch"),
            ("sell north ann bob 2/3", "ok"), ("sell north ann bob 1/1000000000", "no toomuch"),
        )

    def test_lend(self):
        for name in NO_NAMES + ["nobody"]:
            self.check((f"lend north {name} bob 1/9 3", "no nofield"), (f"lend north ann {name} 1/9 3", "no nofield"))
        self.check(
            ("lend north nobody nobody 0/1 0", "no nofield"), ("lend north ann ann 0/1 0", "no same"),
            ("lend north ann bob 0/1 0", "no nopart"), ("lend north ann bob 9/1 0", "no nohours"),
            ("lend north ann bob 1/9 1000", "no nohours"), ("lend north ann bob 1/9 999999999", "no nohours"),
            ("lend north ann bob 9/1 999", "no toomuch"), ("lend north ann bob 1/9 999", "ok"),
            ("lend north ann bob 1/9 1", "ok"),
        )

    def test_leave(self):
        for name in NO_NAMES:
            self.check((f"leave north {name} eva 1", "no nofield"), (f"leave north ann {name} 0", "no badname"))
            self.check((f"leave north ann eva 1 {name} 1", "no badname"))
        self.check(
            ("leave north nobody ann 0", "no nofield"), ("leave north ann bob 0", "no taken"),
            ("leave north ann ann 1", "no taken"), ("leave north ann eva 1 eva 0", "no taken"),
            ("leave north ann eva 0 bob 1", "no noweight"), ("leave north ann eva 1000000", "no noweight"),
            ("leave north ann eva 999999999", "no noweight"), ("leave north ann eva 999999", "ok"),
        )

    def test_leave_with_one_heir_and_with_several(self):
        self.check(
            ("leave north ann eva 7", "ok"), ("share north eva", "2/3"), ("share north ann", "0/1"),
            ("leave north eva fay 2 gil 1 hal 3", "ok"), ("share north fay", "2/9"), ("share north gil", "1/9"),
            ("share north hal", "1/3"), ("leave north ann ida 5", "ok"), ("share north ida", "0/1"),
        )
        self.assertEqual(self.valley.ditch("north").fields(), ["ann", "bob", "eva", "fay", "gil", "hal", "ida"])

    def test_leave_that_fills_a_ditch_and_over(self):
        heirs = [f"{name} 1" for name in "abcdefghijklmnopqrstuvw"]
        self.check((f"leave north ann {' '.join(heirs)}", "no full"))
        self.check((f"leave north ann {' '.join(heirs[:22])}", "ok"), ("settle north w", "no full"))
        self.check(("leave north bob w 1", "no full"), ("leave north bob w 0", "no noweight"))
        self.assertEqual(len(self.valley.ditch("north").fields()), 24)

    def test_questions_for_a_strange_field(self):
        for word in ("share", "free", "lag", "turns"):
            for name in NO_NAMES + ["nobody", "north"]:
                self.check((f"{word} north {name}", "no nofield"))

    def test_nothing_left(self):
        self.check(
            ("again north", "no nothingleft"), ("begin south zoe", "ok"), ("back south", "no nothingleft"),
            ("again south", "no nothingleft"),
        )

    def test_a_strange_ditch_ahead_of_every_other_refusal(self):
        rests = [
            ("settle", " Ann"), ("settle", " ann"), ("sell", " nobody ann 1/9"), ("sell", " ann ann 0/1"),
            ("sell", " ann bob 9/1"), ("lend", " ann ann 0/1 0"), ("lend", " ann bob 9/1 1"), ("leave", " nobody Eva 0"),
            ("leave", " ann bob 1"), ("lose", ""), ("hour", ""), ("hours", " 0"), ("hours", " 100"), ("hours", " 5"),
            ("share", " nobody"), ("free", " Ann"), ("lag", " ann"), ("turns", " ann"), ("due", ""), ("back", ""),
            ("again", ""),
        ]
        for name in NO_NAMES + ["south", "ann", "nort", "northh"]:
            for word, rest in rests:
                self.check((f"{word} {name}{rest}", "no noditch"))


class DitchesTest(ValleyCase):
    def test_without_ditches(self):
        valley = Valley()
        self.assertEqual(valley.names(), [])
        self.assertEqual(valley.tell("hour north"), "no noditch")
        self.assertRaises(NoDitch, valley.ditch, "north")

    def test_names_in_the_order_of_beginning(self):
        valley = Valley()
        for name in ("mid", "zoe", "ann", "b"):
            self.assertEqual(valley.tell(f"begin {name} x"), "ok")
            valley.tell("begin mid x")
            valley.tell("begin Mid x")
        self.assertEqual(valley.names(), ["mid", "zoe", "ann", "b"])

    def test_names_are_a_list_of_the_askers_own(self):
        names = self.valley.names()
        self.assertIs(names.__class__, list)
        self.assertIsNot(self.valley.names(), names)
        names.append("south")
        names[0] = "west"
        self.assertEqual(self.valley.names(), ["north"])

    def test_ditches_of_one_valley_are_apart(self):
        self.check(("begin south ann", "ok"), ("hours north 3", "ann bob ann"), ("turns south ann", "0"))
        self.check(("settle south bob", "ok"), ("share south bob", "0/1"), ("back north", "hour"))
        self.check(("back south", "settle"), ("share south bob", "no nofield"), ("share north bob", "1/3"))

    def test_two_valleys_are_apart(self):
        other = Valley()
        self.assertEqual(other.names(), [])
        self.assertEqual(other.tell("begin north zoe"), "ok")
        other.tell("hour north")
        self.assertEqual(self.valley.ditch("north").fields(), ["ann", "bob"])
        self.assertEqual(self.valley.tell("turns north ann"), "0")
        self.assertEqual(other.ditch("north").fields(), ["zoe"])

    def test_a_told_ditch_is_apart_from_the_valleys_own(self):
        self.valley.tell("back north")
        known = all_told(self.valley)
        ditch = self.valley.ditch("north")
        self.assertIs(ditch.__class__, Ditch)
        ditch.again()
        ditch.hour()
        ditch.settle("eva")
        self.assertEqual(all_told(self.valley), known)
        other = self.valley.ditch("north")
        known = told(other)
        self.valley.tell("again north")
        self.valley.tell("hours north 5")
        self.assertEqual(told(other), known)
        self.assertEqual(other.again(), ("sell", "ann", "bob", (1, 3)))

    def test_a_told_ditch_is_a_twin(self):
        self.check(("hours north 2", "ann bob"), ("back north", "hour"))
        ditch = self.valley.ditch("north")
        self.assertEqual(ditch.again(), ("hour", "bob"))
        for deed in [("hour", "bob"), ("hour", "ann"), ("sell", "ann", "bob", (1, 3)), ("settle", "bob")]:
            self.assertEqual(ditch.back(), deed)

    def test_strange_ditches(self):
        for name in NO_NAMES + ["", "south", "ann", " north", "north "]:
            self.assertRaises(NoDitch, self.valley.ditch, name)

    def test_the_class_has_its_methods_itself(self):
        for word in ("tell", "names", "ditch"):
            self.assertTrue(inspect.isfunction(Valley.__dict__[word]), word)
        self.assertEqual(self.valley.tell(line="due north"), "ann")
        self.assertEqual(self.valley.ditch(name="north").fields(), ["ann", "bob"])


class DrawnLinesTest(unittest.TestCase):
    def test_against_a_second_valley(self):
        draw = random.Random(100)
        met = {}
        for time in range(10):
            valley, second = Valley(), SecondValley()
            for step in range(250):
                line = self.drawn_line(draw, second)
                answer = valley.tell(line)
                self.assertIs(answer.__class__, str)
                self.assertEqual(answer, second.tell(line), repr(line))
                kind = answer if answer.startswith("no ") else line.split(" ")[0]
                met[kind] = met.get(kind, 0) + 1
            self.assertEqual(valley.names(), list(second.moments))
            for name in valley.names():
                self.assertEqual(told(valley.ditch(name), 2), second.moments[name][second.at[name]].told(2))
        words = "begin settle sell lend leave lose hour hours share free lag turns due back again".split()
        refusals = "line noditch badname taken full nofield same nopart toomuch nohours noweight nothingleft badmany"
        self.assertEqual(set(met), set(words) | {"no " + word for word in refusals.split()})

    def drawn_line(self, draw, second):
        """A line; now and then with a sign changed, left out or put in."""
        if not second.moments or draw.random() < 0.03:
            return f"begin {draw.choice(['north', 'south', 'No'])} {draw.choice(['ann', 'Ann'])}"
        name = draw.choice(list(second.moments))
        line = self.drawn_order(draw, name, second.moments[name][second.at[name]])
        if draw.random() < 0.1:
            at = draw.randrange(len(line) + 1)
            sign = draw.choice(["", " ", "\n", "0", "1", "a", "A", "/", "-"])
            line = line[:at] + sign + line[at + draw.randint(0, 1):]
        return line

    def drawn_order(self, draw, name, model):
        words = "settle sell sell lend lend leave lose hour hour hours share free lag turns due back back again again"
        word = draw.choice(words.split())
        if word in ("lose", "hour", "due", "back", "again"):
            return f"{word} {name}"
        if word == "settle":
            return f"{word} {name} {drawn_heir(draw, model, 0.1)[0]}"
        if word == "hours":
            return f"{word} {name} {draw.choice([0, 1, 2, 3, 100])}"
        if word == "leave":
            heirs = [drawn_heir(draw, model, 0.1) for heir in range(draw.choice([1, 1, 2, 5]))]
            return " ".join([word, name, drawn_name(draw, model, 0.1)] + [f"{heir} {weight}" for heir, weight in heirs])
        giver, taker = drawn_name(draw, model, 0.1), drawn_name(draw, model, 0.1)
        if word in ("share", "free", "lag", "turns"):
            return f"{word} {name} {giver}"
        top, bottom = drawn_part(draw, model, giver)
        hours = f" {draw.choice([0, 1, 2, 5, 999, 1000])}" if word == "lend" else ""
        return f"{word} {name} {giver} {taker} {top}/{bottom}{hours}"


if __name__ == "__main__":
    unittest.main()
