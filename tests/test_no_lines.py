"""Point 21: what is no line."""

import itertools
import unittest

from valley_help import ValleyCase

# Each of these is a line that is not refused, behind which the valley is set up anew.
LINES = [
    "begin south zoe", "settle north cid", "sell north ann bob 1/3", "lend north ann bob 1/3 12", "leave north ann cid 2",
    "leave north ann cid 2 dan 1", "lose north", "hour north", "hours north 3", "share north ann", "free north ann",
    "lag north ann", "turns north ann", "due north", "back north", "again north",
]


class NoLineTest(ValleyCase):
    def setUp(self):
        super().setUp()
        for line in ("lose north", "back north"):
            self.valley.tell(line)

    def no_line(self, *lines):
        self.check(*[(line, "no line") for line in lines])

    def test_all_of_them_are_lines_as_they_stand(self):
        for line in LINES:
            self.setUp()
            self.assertFalse(self.valley.tell(line).startswith("no "), line)

    def test_the_empty_line_and_blanks(self):
        self.no_line("", " ", "  ", "\n", "\n\n", " \n", "\n ", " \n ")

    def test_a_blank_ahead_behind_or_doubled(self):
        for line in LINES:
            self.no_line(" " + line, line + " ", "  " + line, line + "  ")
            words = line.split(" ")
            for at in range(1, len(words)):
                self.no_line(" ".join(words[:at]) + "  " + " ".join(words[at:]))

    def test_an_empty_word_in_place_of_a_word(self):
        for line in LINES:
            words = line.split(" ")
            for at in range(len(words)):
                self.no_line(" ".join(words[:at] + [""] + words[at + 1:]))

    def test_a_word_more(self):
        for line in LINES:
            for word in ("ann", "1", "1/2", "north", "\n"):
                self.no_line(line + " " + word)

    def test_a_word_less(self):
        for line in LINES:
            words = line.split(" ")
            for many in range(1, len(words)):
                shorter = " ".join(words[:many])
                if shorter != "leave north ann cid 2":
                    self.no_line(shorter)

    def test_a_leaving_needs_pairs(self):
        self.no_line(
            "leave north ann", "leave north", "leave", "leave north ann cid", "leave north ann cid 1 dan",
            "leave north ann 1 cid", "leave north ann cid dan 1 2", "leave north ann cid 1 2", "leave north cid 1",
        )

    def test_other_first_words(self):
        self.no_line(
            "owned north ann", "gain north ann", "lags north", "loans north", "log north", "fields north", "do north",
            "twin north", "given north", "lost north", "coming north 3", "names", "names north", "ditch north", "ditch ann",
            "north", "ann", "no line", "ok", "end north", "hour\n north", "\nhour north", "hours\n3 north", "tell north",
            "shares_ahead north 3", "line", "1 north", "?", "answer north",
        )

    def test_great_letters_in_the_first_word(self):
        for line in LINES:
            word, blank, rest = line.partition(" ")
            self.no_line(f"{word.upper()} {rest}", f"{word.title()} {rest}", f"{word[:-1]}{word[-1].upper()} {rest}")
            self.no_line(line.upper())

    def test_great_letters_elsewhere_make_no_line_none(self):
        self.check(
            ("begin South zoe", "no badname"), ("begin south Zoe", "no badname"), ("settle North cid", "no noditch"),
            ("settle north Cid", "no badname"), ("hour North", "no noditch"), ("share north Ann", "no nofield"),
            ("leave north ann Cid 1", "no badname"), ("sell north Ann bob 1/3", "no nofield"),
        )

    def test_a_line_feed_in_a_word(self):
        self.check(
            ("hour north\n", "no noditch"), ("hour nor\nth", "no noditch"), ("hour \nnorth", "no noditch"),
            ("hour \n", "no noditch"), ("settle north c\nid", "no badname"), ("settle north \n", "no badname"),
            ("settle north cid\nsettle", "no badname"), ("share north ann\n", "no nofield"),
            ("begin so\nuth zoe", "no badname"), ("begin south \nzoe", "no badname"),
            ("leave north ann c\nd 2", "no badname"), ("sell north ann\n bob 1/3", "no nofield"),
        )
        self.no_line(
            "hour\nnorth", "hour\n north", "hours north 3\n", "hours north \n3", "sell north ann bob 1/3\n",
            "sell north ann bob 1\n/3", "lend north ann bob 1/3 12\n", "leave north ann cid 2\n", "settle\nnorth\ncid",
            "lend north ann bob \n 12",
        )

    def test_numbers_that_are_not_written_so(self):
        wrong = [
            "01", "00", "007", "-1", "-0", "+1", "1.0", "1_0", "1/1", "1e1", "a", "x1", "1x", "0x1", "1,0", "1234567890",
            "0000000001", "9" * 10, "9" * 50, "one", "\n", "1\n", "'1'", "(1)",
        ]
        for number in wrong:
            self.no_line(
                f"hours north {number}", f"lend north ann bob 1/3 {number}", f"leave north ann cid {number}",
                f"leave north ann cid {number} dan 1", f"leave north ann cid 1 dan {number}",
            )
            # Also where the deed would be refused, and where the ditch is strange.
            self.no_line(f"hours south {number}", f"lend north ann ann 0/1 {number}", f"leave south ann ann {number}")

    def test_numbers_of_nine_figures_and_nought_are_written_so(self):
        for number in ("0", "100000000", "999999999"):
            self.check(
                (f"hours north {number}", "no badmany"), (f"lend north ann bob 1/3 {number}", "no nohours"),
                (f"leave north ann cid {number}", "no noweight"), (f"hours south {number}", "no noditch"),
            )

    def test_parts_that_are_not_written_so(self):
        wrong = [
            "1", "0", "1/", "/3", "/", "01/3", "1/03", "+1/3", "1/+3", "1/-3", "-0/1", "0/3", "2/6", "3/3", "1/0", "1//3",
            "1/3/1", "1.0/3", "1_0/3", "a/b", "half", "(1,3)", "--1/3", "-/3", "1/3\n", "\n1/3", "-2/6", "00/1",
            "1/" + "9" * 401, "9" * 401 + "/1", "-1/" + "9" * 401, "1/1" + "0" * 400, "9" * 401 + "/" + "7" * 401,
        ]
        for part in wrong:
            self.no_line(f"sell north ann bob {part}", f"lend north ann bob {part} 12")
            self.no_line(f"sell south ann bob {part}", f"sell north ann ann {part}", f"lend north nobody bob {part} 0")

    def test_all_short_lines_of_a_few_words(self):
        words = ["hour", "north", "due", "", "1", "\n", "back"]
        for many in (1, 2, 3):
            for row in itertools.product(words, repeat=many):
                line = " ".join(row)
                if many == 2 and row[0] in ("hour", "due", "back") and row[1] != "":
                    if row[1] != "north":
                        self.check((line, "no noditch"))
                else:
                    self.no_line(line)


if __name__ == "__main__":
    unittest.main()
