"""Point 19: sheets written and read, BadSheet and its row."""

import random
import sys
import unittest

from ditchturn.ditch import Ditch
from ditchturn.errors import BadSheet, DitchError, NothingLeft
from ditchturn.sheets import read, written
from ditch_help import ditch_of, drawn_moments, redone, told
from sheet_help import EVERY_DEED, EVERY_ROW, drawn_ditch, first_bad_row, long_ditch

# None of these is a row of any ditch behind its first.
ODD_ROWS = [
    "", " ", "lose ", " lose", "lose  ", "lose lose", "LOSE", "Lose", "los", "loses", "lose ann", "ditch ann",
    "hour", "hour ", "hour  bob", "hour bob ", " hour bob", "hour bob cid", "hour Bob", "hour 1", "HOUR bob",
    "settle", "settle ", "settle  eva", "settle eva ", "settle eva fay", "settle Eva", "settle eva1", "settle ninelettr",
    "sell", "sell bob", "sell bob ann", "sell bob ann ", "sell bob ann 1", "sell bob ann 1/5 ", "sell bob  ann 1/5",
    "sell bob ann 2/10", "sell bob ann 01/5", "sell bob ann 1/05", "sell bob ann +1/5", "sell bob ann 1/5/1",
    "sell bob ann 1 / 5", "sell bob ann 0/1", "sell bob ann -1/5", "sell bob ann 1/0", "sell bob ann 1/5 1",
    "sell bob ann (1, 5)", "sell bob ann 1_0/51", "sell bob ann /5", "sell bob ann 1/", "sell bob ann -0/1",
    "lend bob ann 1/5", "lend bob ann 1/5 ", "lend bob ann 1/5 01", "lend bob ann 1/5 +1", "lend bob ann 1/5 0",
    "lend bob ann 1/5 -1", "lend bob ann 1/5 1000", "lend bob ann 1/5 1 1", "lend bob ann 1 1/5", "lend bob ann 1/5  1",
    "lend bob ann 1/5 1_0", "lend bob ann 1/5 12345678901234567890", "lend bob ann 1/5 1.0", "lend bob ann 1/5 one",
    "leave", "leave bob", "leave bob ", "leave bob eva", "leave bob eva 1 fay", "leave bob eva 01", "leave bob eva 0",
    "leave bob eva 1000000", "leave bob eva -1", "leave bob eva 1 fay 1 ", "leave bob  eva 1", "leave bob eva  1",
    "leave bob eva 12345678901", "leave bob 1 eva", "leave bob (eva, 1)", "leave bob eva 1/1", "leave bob eva +1",
    "back", "again", "begin eva", "due", "hours 3", "share bob", "?", "{}", "~",
]
REFUSED_ROWS = [
    # Rows of other ditches, but not behind EVERY_ROW.
    "settle ann", "settle dan", "hour ann", "hour cid", "hour nobody", "sell bob nobody 1/5", "sell nobody bob 1/5",
    "sell bob bob 1/5", "sell bob cid 501/1000", "sell ann bob 1/5", "lend bob nobody 1/5 3", "lend bob bob 1/5 3",
    "lend cid bob 1/5 3", "leave nobody eva 1", "leave bob ann 1", "leave bob eva 1 eva 2",
]


class SheetCase(unittest.TestCase):
    def assert_bad(self, text, row):
        """The text is refused with BadSheet itself and the number of that row."""
        with self.assertRaises(DitchError, msg=repr(text[:80])) as caught:
            read(text)
        self.assertIs(type(caught.exception), BadSheet)
        self.assertIs(type(caught.exception.row), int)
        self.assertEqual(caught.exception.row, row, repr(text[:80]))

    def check(self, ditch):
        """A ditch's sheet is read to a like one and written as it was; tell the sheet."""
        known = told(ditch)
        text = written(ditch)
        self.assertEqual(told(ditch), known)
        other = read(text)
        self.assertIs(other.__class__, Ditch)
        self.assertEqual(told(other), known)
        self.assertEqual(redone(other), [])
        self.assertEqual(written(other), text)
        return text


class WrittenTest(SheetCase):
    def test_every_kind_of_deed(self):
        self.assertEqual(written(ditch_of("ann", *EVERY_DEED)), "\n".join(EVERY_ROW))
        for many in range(len(EVERY_DEED) + 1):
            self.assertEqual(written(ditch_of("ann", *EVERY_DEED[:many])), "\n".join(EVERY_ROW[:many + 1]))

    def test_a_ditch_without_deeds(self):
        self.assertEqual(written(Ditch("a")), "ditch a")
        self.assertEqual(written(Ditch("abcdefgh")), "ditch abcdefgh")

    def test_a_deed_taken_back_is_not_on_it(self):
        ditch = ditch_of("ann", *EVERY_DEED)
        ditch.back()
        ditch.back()
        self.assertEqual(written(ditch), "\n".join(EVERY_ROW[:5]))
        self.assertEqual(redone(ditch), EVERY_DEED[4:])
        ditch.again()
        self.assertEqual(written(ditch), "\n".join(EVERY_ROW[:6]))

    def test_a_refused_deed_is_not_on_it(self):
        ditch = ditch_of("ann", *EVERY_DEED)
        for deed in [("settle", "ann"), ("hour", "nobody"), ("sell", "ann", "bob", (2, 1))]:
            self.assertRaises(DitchError, ditch.do, deed)
        self.assertEqual(written(ditch), "\n".join(EVERY_ROW))

    def test_great_hours_weights_and_heirs(self):
        ditch = Ditch("ann")
        ditch.leave("ann", [(name, 999999) for name in "bcdefghijklmnopqrstuvwx"])
        ditch.lend("b", "ann", (1, 23), 999)
        heirs = " ".join(name + " 999999" for name in "bcdefghijklmnopqrstuvwx")
        self.assertEqual(self.check(ditch), f"ditch ann\nleave ann {heirs}\nlend b ann 1/23 999")


class ReadTest(SheetCase):
    def test_every_kind_of_deed(self):
        for many in range(len(EVERY_DEED) + 1):
            ditch = read("\n".join(EVERY_ROW[:many + 1]))
            self.assertEqual(told(ditch), told(ditch_of("ann", *EVERY_DEED[:many])))
            self.assertEqual(ditch.log(), EVERY_DEED[:many])

    def test_kinds_within_the_log(self):
        for deed, row in zip(read("\n".join(EVERY_ROW)).log(), EVERY_DEED):
            self.assertEqual(repr(deed), repr(row))

    def test_back_and_again_behind_a_reading(self):
        ditch = read("\n".join(EVERY_ROW))
        self.assertRaises(NothingLeft, ditch.again)
        for deed in reversed(EVERY_DEED):
            self.assertEqual(ditch.back(), deed)
        self.assertRaises(NothingLeft, ditch.back)
        self.assertEqual(told(ditch), told(Ditch("ann")))
        for deed in EVERY_DEED:
            self.assertEqual(ditch.again(), deed)
        self.assertEqual(written(ditch), "\n".join(EVERY_ROW))

    def test_nothing_to_do_again_from_a_ditch_that_has(self):
        ditch = ditch_of("ann", *EVERY_DEED)
        ditch.back()
        self.assertRaises(NothingLeft, read(written(ditch)).again)

    def test_two_readings_are_apart(self):
        text = "\n".join(EVERY_ROW)
        ditch, other = read(text), read(text)
        ditch.hour()
        ditch.settle("eva")
        self.assertEqual(written(other), text)

    def test_drawn_ditches(self):
        for number, (ditch, model) in enumerate(drawn_moments(80, 10, 60)):
            if number % 7 == 0:
                self.check(ditch)

    def test_sheets_of_400_deeds(self):
        for ditch in (long_ditch(), drawn_ditch(81, 400)):
            text = self.check(ditch)
            rows = text.split("\n")
            self.assertEqual(len(rows), 401)
            self.assert_bad("\n".join(rows[:400] + ["hour nobody"]), 400)
            self.assert_bad("\n".join(rows[:200] + [""] + rows[201:]), 200)

    def test_rows_with_which_a_sheet_goes_on(self):
        for row in ["settle eva", "sell bob cid 1/2", "lend bob cid 1/2 999", "leave bob eva 1", "lose", "hour bob"]:
            text = "\n".join(EVERY_ROW + [row])
            self.assertEqual(written(read(text)), text)

    def test_arguments_by_name(self):
        self.assertEqual(written(ditch=read(text="ditch ann\nlose")), "ditch ann\nlose")


class BadSheetTest(SheetCase):
    def test_the_empty_text_and_its_kin(self):
        for text in ("", "\n", "\n\n", " ", "\nditch ann", " \nditch ann"):
            self.assert_bad(text, 0)

    def test_the_first_row(self):
        first_rows = [
            "ditch", "ditch ", "ditch  ann", "ditch ann ", " ditch ann", "ditch Ann", "ditch ann bob", "ditch ann1",
            "ditch ninelettr", "Ditch ann", "DITCH ann", "ditchann", "ann", "begin ann", "settle ann", "lose", "ditch ~",
        ]
        for row in first_rows:
            self.assert_bad(row, 0)
            self.assert_bad("\n".join([row] + EVERY_ROW[1:]), 0)
            self.assert_bad(row + "\nno row either", 0)

    def test_a_line_feed_behind_or_between(self):
        for many in range(1, len(EVERY_ROW) + 1):
            rows = EVERY_ROW[:many]
            self.assert_bad("\n".join(rows) + "\n", many)
            self.assert_bad("\n".join(rows) + "\n\n", many)
            self.assert_bad("\n".join(rows + [""] + EVERY_ROW[many:]), many)

    def test_odd_rows_and_rows_of_deeds_that_are_refused_there(self):
        for row in ODD_ROWS + REFUSED_ROWS:
            self.assert_bad("\n".join(EVERY_ROW + [row]), 7)
            self.assert_bad("\n".join(EVERY_ROW + [row, "lose"]), 7)
            self.assert_bad("\n".join(EVERY_ROW + ["lose", row, row]), 8)

    def test_odd_rows_at_every_place(self):
        for at in range(len(EVERY_ROW) + 1):
            for row in ODD_ROWS:
                if not (at == 0 and row == "ditch ann"):
                    self.assert_bad("\n".join(EVERY_ROW[:at] + [row] + EVERY_ROW[at:]), at)

    def check_rows(self, rows, row):
        """These rows are a sheet where row is None, else they go wrong with that row."""
        text = "\n".join(rows)
        self.assertEqual(first_bad_row(text), row)
        if row is None:
            self.assertEqual(written(read(text)), text)
        else:
            self.assert_bad(text, row)

    def test_a_row_left_out(self):
        # Without its settling bob is strange, and without the sale the hour is not bob's.
        for at, row in enumerate([0, 1, 4, None, None, None, None]):
            self.check_rows(EVERY_ROW[:at] + EVERY_ROW[at + 1:], row)

    def test_a_row_doubled(self):
        # Behind the second sale ann has nothing left to lend.
        for at, row in enumerate([1, 2, 4, None, 5, None, None]):
            self.check_rows(EVERY_ROW[:at + 1] + EVERY_ROW[at:], row)

    def test_two_rows_exchanged(self):
        self.assert_bad("settle bob\nditch ann", 0)
        self.assert_bad("ditch ann\nsell ann bob 1/2\nsettle bob", 1)
        self.assert_bad("ditch ann\nsettle bob\nlend bob ann 1/2 3\nsell ann bob 1/2", 2)

    def test_an_hour_of_another_field(self):
        self.assert_bad("ditch ann\nsettle bob\nsell ann bob 1/2\nhour bob", 3)
        self.assert_bad("ditch ann\nsettle bob\nsell ann bob 1/2\nhour ann\nhour ann", 4)
        self.assertEqual(read("ditch ann\nsettle bob\nsell ann bob 1/2\nhour ann\nhour bob").turns("bob"), 1)

    def test_a_blank_more_or_less_at_every_place(self):
        text = "\n".join(EVERY_ROW)
        for at in range(len(text) + 1):
            self.assert_bad(text[:at] + " " + text[at:], text[:at].count("\n"))
            if text[at:at + 1] == " ":
                self.assert_bad(text[:at] + text[at + 1:], text[:at].count("\n"))

    def test_drawn_changes_against_a_second_reading(self):
        draw = random.Random(82)
        met = {True: 0, False: 0}
        for seed in range(40):
            rows = written(drawn_ditch(seed, draw.choice([3, 8, 20, 40]))).split("\n")
            for time in range(25):
                text = self.changed(draw, rows)
                row = first_bad_row(text)
                met[row is None] += 1
                if row is None:
                    self.assertEqual(written(read(text)), text)
                else:
                    self.assert_bad(text, row)
        self.assertGreater(min(met.values()), 100)

    def changed(self, draw, rows):
        """A sheet's text with a row left out, doubled, exchanged or put in, or a sign changed."""
        rows = list(rows)
        at = draw.randrange(len(rows))
        kind = draw.choice(["out", "double", "exchange", "in", "sign", "sign", "sign out"])
        if kind == "out":
            del rows[at]
        elif kind == "double":
            rows.insert(at, rows[at])
        elif kind == "exchange":
            other = min(at + 1, len(rows) - 1)
            rows[at], rows[other] = rows[other], rows[at]
        elif kind == "in":
            rows.insert(at, draw.choice(["lose", "settle zz", "hour ann", "leave ann zy 1", "sell ann ann 1/9"]))
        else:
            text = "\n".join(rows)
            at = draw.randrange(len(text))
            sign = draw.choice(" \n019/-aeu") if kind == "sign" else ""
            return text[:at] + sign + text[at + 1:]
        return "\n".join(rows)


class LongPartsTest(SheetCase):
    FIGURES = (398, 399, 400, 401, 402, 639, 640, 641, 1000, 1399, 1400)

    def test_sold_and_lent(self):
        for figures in self.FIGURES:
            top, bottom = 10 ** figures - 2, 10 ** figures - 1
            ditch = ditch_of("ann", ("settle", "bob"), ("sell", "ann", "bob", (top, bottom)))
            ditch.lend("ann", "bob", (1, bottom), 5)
            ditch.lend("bob", "ann", (top - 1, bottom), 5)
            ditch.hour()
            ditch.hour()
            text = self.check(ditch)
            nines = "9" * (figures - 1)
            rows = [
                "ditch ann", "settle bob", f"sell ann bob {nines}8/{nines}9", f"lend ann bob 1/{nines}9 5",
                f"lend bob ann {nines}7/{nines}9 5",
            ]
            self.assertEqual(text.split("\n")[:5], rows)
            self.assertEqual(read(text).log()[1], ("sell", "ann", "bob", (top, bottom)))

    def test_long_parts_that_are_not_written_so(self):
        for figures in self.FIGURES:
            nines = "9" * figures
            parts = [
                f"1/0{nines}", f"01/{nines}", f"3/{nines}", f"{nines}/{nines}", f"-1/{nines}", f"0/{nines}", f"1/{nines}x",
                f"1/{nines} ", f"+1/{nines}", f"1/{nines}/1", f"{nines}/1", f"1/-{nines}", f"{nines}", f"1/{nines}_9",
            ]
            for part in parts:
                self.assert_bad(f"ditch ann\nsettle bob\nsell ann bob {part}\nlose", 2)
                self.assert_bad(f"ditch ann\nsettle bob\nlose\nlend ann bob {part} 7\nlose", 3)
            self.assertEqual(read(f"ditch ann\nsettle bob\nsell ann bob 1/{nines}").owned("bob"), (1, 10 ** figures - 1))

    def test_a_part_that_is_a_little_too_much(self):
        for figures in self.FIGURES:
            nines, power = "9" * figures, "1" + "0" * figures
            rows = f"ditch ann\nsettle bob\nsell ann bob {nines}/{power}\nsell ann bob "
            self.assert_bad(rows + f"1/{nines}", 3)
            self.assert_bad(rows + f"11/{power}0", 3)
            self.assertEqual(read(rows + f"1/{power}").free("ann"), (0, 1))

    def test_where_python_itself_reads_fewer_figures(self):
        known = sys.get_int_max_str_digits()
        nines = "9" * 1400
        sys.set_int_max_str_digits(640)
        try:
            text = f"ditch ann\nsettle bob\nsell ann bob 1/{nines}"
            self.assertEqual(written(read(text)), text)
        finally:
            sys.set_int_max_str_digits(known)

    def test_rows_somewhat_beyond_the_bounds(self):
        text = "ditch ann\nsettle bob\nsell ann bob 1/1" + "0" * 4999
        self.assertEqual(written(read(text)), text)


if __name__ == "__main__":
    unittest.main()
