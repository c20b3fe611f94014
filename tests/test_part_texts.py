"""Point 3: how parts are written and read."""

import itertools
import math
import re
import unittest

from ditchturn.errors import BadPart, DitchError
from ditchturn.parts import long_part_read, part_read, part_text

# In lowest terms over each power of ten, two and five, as no nine shares a divisor with them.
LONGEST = int("9" * 400)
WRITTEN = [
    ((0, 1), "0/1"), ((1, 1), "1/1"), ((-1, 1), "-1/1"), ((-3, 4), "-3/4"), ((3, 4), "3/4"),
    ((10, 1), "10/1"), ((-100, 1), "-100/1"), ((1, 10), "1/10"), ((1001, 1000), "1001/1000"),
    ((10 ** 63, 1), "1" + "0" * 63 + "/1"), ((10 ** 64, 1), "1" + "0" * 64 + "/1"),
    ((10 ** 64 - 1, 10 ** 64), "9" * 64 + "/1" + "0" * 64),
    ((-(10 ** 128) - 1, 10 ** 64), "-1" + "0" * 127 + "1/1" + "0" * 64),
    ((LONGEST, 1), "9" * 400 + "/1"), ((-LONGEST, 2), "-" + "9" * 400 + "/2"),
    ((1, LONGEST), "1/" + "9" * 400), ((-1, 10 ** 399), "-1/1" + "0" * 399),
    ((-LONGEST, 10 ** 399), "-" + "9" * 400 + "/1" + "0" * 399),
]
REFUSED = [
    # a nought ahead of other figures, a nought below nought
    "01/2", "00/1", "1/02", "-01/2", "1/00", "0/01", "1/01", "-00/1", "-0/1", "-0/2",
    # signs
    "+1/2", "1/+2", "+0/1", "--1/2", "-+1/2", "1-/2", "-/2", "-", "-/",
    # blanks and line feeds
    " 1/2", "1/2 ", "1 /2", "1/ 2", "- 1/2", " ", "1/2\n", "\n1/2", "1\n/2", "1/\n2", "\n",
    "1/2\n1/2", "1/2 1/2",
    # underscores
    "1_0/3", "1/1_0", "_1/2", "1/2_", "1_/2",
    # a bottom of nought or below
    "1/0", "0/0", "-1/0", "1/-2", "-1/-2", "0/-1", "1/-0", "0/-0",
    # terms that aren't the lowest
    "2/4", "-2/4", "0/2", "0/60", "3/3", "-3/3", "10/5", "6/4", "100/10",
    # no stroke, or two
    "1", "0", "-1", "12", "1/2/3", "1//2", "/1/2", "1/2/", "//", "1/1/1",
    # an empty text or number
    "", "/", "/2", "1/", "-/1", "0/",
    # other signs
    "a/b", "1/x", "0x1/2", "1.0/2", "1.5", "1e2/3", "1,0/3", "1:2", "1\\2", "(1/2)", "(1, 2)",
    "half", "1/2.", "\u0661/2", "1/\u00b2", "\uff11/2",
]


class WritingTest(unittest.TestCase):
    def test_parts_above_at_and_below_nought(self):
        for part, text in WRITTEN:
            self.assertEqual(part_text(part), text)

    def test_numbers_of_up_to_4000_figures(self):
        for count in (401, 639, 640, 641, 1000, 2048, 3999, 4000):
            nines, power = int("9" * count), 10 ** (count - 1)
            self.assertEqual(part_text((nines, 1)), "9" * count + "/1")
            self.assertEqual(part_text((-nines, power)), "-" + "9" * count + "/1" + "0" * (count - 1))
            self.assertEqual(part_text((power + 1, nines)), "1" + "0" * (count - 2) + "1/" + "9" * count)

    def test_somewhat_longer_numbers_raise_no_error(self):
        self.assertEqual(part_text((-(10 ** 4999), 3)), "-1" + "0" * 4999 + "/3")

    def test_noughts_within_numbers_stay(self):
        for at in range(0, 200):
            number = 10 ** 200 + 10 ** at
            noughts = "0" * (199 - at) + "1" + "0" * at
            self.assertEqual(part_text((number, 1)), "1" + noughts + "/1")


class ReadingTest(unittest.TestCase):
    def assert_refused(self, text):
        """The text is refused with BadPart itself."""
        with self.assertRaises(DitchError, msg=repr(text[:50])) as caught:
            part_read(text)
        self.assertIs(type(caught.exception), BadPart)

    def test_written_parts_are_read(self):
        for part, text in WRITTEN:
            read = part_read(text)
            self.assertEqual(read, part)
            self.assertIs(type(read), tuple)
            self.assertEqual([type(number) for number in read], [int, int])

    def test_every_written_part_is_read_back(self):
        for top in range(-130, 131):
            for bottom in range(1, 61):
                if math.gcd(top, bottom) == 1:
                    self.assertEqual(part_read(part_text((top, bottom))), (top, bottom))

    def test_refused_texts(self):
        for text in REFUSED:
            with self.subTest(text=text):
                self.assert_refused(text)

    def test_all_short_texts(self):
        form = re.compile(r"(0|-?[1-9][0-9]*)/([1-9][0-9]*)")
        read = 0
        for length in range(6):
            for signs in itertools.product("0124/-+ _\n", repeat=length):
                text = "".join(signs)
                match = form.fullmatch(text)
                if match and math.gcd(int(match[1]), int(match[2])) == 1:
                    self.assertEqual(part_read(text), (int(match[1]), int(match[2])))
                    read += 1
                else:
                    self.assert_refused(text)
        self.assertGreater(read, 100)

    def test_no_other_sign_is_a_figure(self):
        for code in [10, *range(32, 127)]:
            sign = chr(code)
            if sign not in "0123456789":
                for text in (f"1{sign}/1", f"1/1{sign}", f"{sign}1{sign}/1", f"1/{sign}1"):
                    self.assert_refused(text)

    def test_numbers_of_400_figures_are_read_and_longer_ones_refused(self):
        nines = "9" * 400
        for text in (nines + "/1", "-" + nines + "/1", "1/" + nines, "-1/" + nines):
            self.assertEqual(part_text(part_read(text)), text)
        self.assertEqual(part_read("1" + "0" * 399 + "/" + nines), (10 ** 399, LONGEST))
        for count in (401, 402, 640, 641, 1000, 4000, 4300, 4301, 9000):
            long = "9" * count
            for text in (long + "/1", "-" + long + "/1", "1/" + long, "-1/" + long, long + "/" + nines):
                self.assert_refused(text)

    def test_long_texts_that_are_no_numbers_are_refused(self):
        for text in ("0" * 5000 + "/1", "1/" + "0" * 5000, "1" * 5000, "/" * 5000, "-" * 5000, "a" * 5000):
            self.assert_refused(text)


class LongReadingTest(unittest.TestCase):
    def test_parts_of_any_count_of_figures(self):
        for count in (1, 63, 64, 65, 127, 128, 129, 400, 401, 640, 641, 1400, 4000, 4301, 5000):
            power = 10 ** count
            for part in ((power - 1, power), (-power, power - 1), (1, power + 1), (power // 10, 1)):
                self.assertEqual(long_part_read(part_text(part)), part)

    def test_what_is_written_and_refused_shortly(self):
        for part, text in WRITTEN:
            self.assertEqual(long_part_read(text), part)
        for text in REFUSED:
            with self.assertRaises(BadPart, msg=repr(text)):
                long_part_read(text)

    def test_long_texts_that_write_no_part(self):
        nines = "9" * 1400
        for text in (f"0{nines}/1", f"1/0{nines}", f"3/{nines}", f"{nines}/{nines}", f"0/{nines}", nines, f"1/{nines}x"):
            with self.assertRaises(BadPart):
                long_part_read(text)


if __name__ == "__main__":
    unittest.main()
