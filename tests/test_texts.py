import copy
import itertools
import re
import unittest

from fallrow.errors import BadRow, BadText
from fallrow.texts import read, written
from tests.common import HUGE, Refusing, Unequal, bad_rows, endless_list, small_rows

SIXTY = 10 ** 60 - 1
SIXTY_ONE = 10 ** 60

# Each row and how it is written.
ROWS = [
    ([], ""),
    ([(0, 1)], "0:1"),
    ([(7, 12)], "7:12"),
    ([(-7, 12)], "-7:12"),
    ([(-10, 10), (0, 100), (205, 1)], "-10:10 0:100 205:1"),
    ([(-1, 1), (0, 1), (1, 1)], "-1:1 0:1 1:1"),
    ([(SIXTY, 1)], "9" * 60 + ":1"),
    ([(-SIXTY, 1)], "-" + "9" * 60 + ":1"),
    ([(10 ** 59, 10 ** 59)], "1" + "0" * 59 + ":1" + "0" * 59),
    ([(-SIXTY, SIXTY), (0, SIXTY), (SIXTY, SIXTY)], f"-{SIXTY}:{SIXTY} 0:{SIXTY} {SIXTY}:{SIXTY}"),
]

NO_TEXTS = [
    None, True, False, 0, 1, HUGE, 1.0, b"", b"0:1", bytearray(b"0:1"), [], ["0:1"], ["0", ":", "1"], (), ("0:1",),
    {}, {"0:1": 1}, set(), {"0:1"}, [(0, 1)], (0, 1), iter("0:1"), range(0), object(), str, Unequal(), endless_list(),
]

BAD_TEXTS = [
    # needless noughts
    "00:1", "01:1", "0:01", "-01:1", "-00:1", "00:01", "0:1 01:1", "0:1 1:01", "0" * 60 + ":1", "0:" + "0" * 59 + "1",
    # other signs ahead
    "-0:1", "+0:1", "+1:1", "0:+1", "-+1:1", "+-1:1", "--1:1", "0:1 +1:1", "- 1:1", "1-:1", "-1-:1",
    # blanks
    "0:1  1:1", " 0:1", "0:1 ", "0:1 1:1 ", " 0:1 1:1", " ", "  ", "0: 1", "0 :1", "0 : 1", "0:1 :1", "1 0:1",
    # tabs and line feeds
    "\t", "\n", "0:1\t1:1", "0:1\n1:1", "0:1\n", "\n0:1", "\t0:1", "0:1\t", "0:\t1", "0\n:1", "0:1 \n1:1", "0:1 \t1:1",
    # no colon, or two
    "0", "01", "0 1", "0-1", "0;1", "0:1 1", "0:1 1;1", "0::1", "0:1:1", "0:1:", ":0:1", "::", "0:1:1:1",
    # no figures
    ":", ":1", "0:", "-:1", "0:-", "-:-", "0:1 :", "0:1 :1", "0:1 1:", "a:1", "0:a", "~", "~:~", "0:1 a:1",
    "1.0:1", "1e3:1", "0:1.0", "0x1:1", "1_0:1", "0:1_0", "1,000:1", "(0, 1)", "0:1,1:1", "0:1;1:1", "\"0:1\"",
    # heights of 0 or below
    "0:0", "0:-1", "0:-0", "5:0", "-5:-5", "0:1 1:0", "0:1 1:-1", "0:0 1:1", f"0:-{SIXTY}",
    # places equal or falling
    "0:1 0:1", "0:1 0:2", "1:1 0:1", "0:1 -1:1", "0:1 2:1 1:1", "0:1 2:1 2:1", "-1:1 -2:1", "9:1 10:1 9:1",
    f"{SIXTY}:1 {SIXTY}:1", f"{-SIXTY}:1 {-SIXTY}:1",
    # more than sixty figures
    f"{SIXTY_ONE}:1", f"-{SIXTY_ONE}:1", f"0:{SIXTY_ONE}", f"0:1 {SIXTY_ONE}:1", f"0:1 1:{SIXTY_ONE}",
    "1" * 61 + ":1", "0:" + "9" * 61, "1" * 5000 + ":1", "-" + "1" * 5000 + ":1", "0:" + "1" * 5000,
    "0" * 61 + ":1", "0" * 5000 + ":1",
    # signs beyond those of texts, among them what Python reads as figures or blanks
    "\u0661:1", "0:\u0661", "0:\u00b2", "\uff11:1", "0:1\u00a01:1", "\u00a00:1", "0:1\r", "0:1\r\n", "0:1\x0b1:1",
    "0:1\x00", "\x00", "\u22121:1", "0\uff1a1", "\ud800", "\ufeff0:1",
]


NUMBER = re.compile(r"(0|-?[1-9][0-9]{0,59})")


def row_by_the_words(text):
    """The row, or None where the text is none's."""
    if not text:
        return []
    row = []
    for part in text.split(" "):
        numbers = part.split(":")
        if len(numbers) != 2 or not all(NUMBER.fullmatch(number) for number in numbers):
            return None
        row.append((int(numbers[0]), int(numbers[1])))
    rising = all(row[k][0] < row[k + 1][0] for k in range(len(row) - 1))
    return row if rising and all(height >= 1 for place, height in row) else None


class Writing(Refusing):
    def test_rows(self):
        for row, text in ROWS:
            self.assertEqual(written(row), text)

    def test_kind(self):
        for row, text in ROWS:
            self.assertIs(type(written(row)), str)

    def test_no_rows(self):
        for row in bad_rows():
            self.refused(BadRow, written, row)

    def test_more_than_sixty_figures(self):
        for number in (SIXTY_ONE, SIXTY_ONE + 1, 10 ** 61, HUGE):
            for row in (
                [(number, 1)], [(-number, 1)], [(0, number)], [(number, number)], [(0, 1), (number, 1)],
                [(-number, 1), (0, 1)], [(0, 1), (1, 1), (2, number)], [(0, number), (1, 1)],
            ):
                self.refused(BadRow, written, row)

    def test_small_rows_read_again(self):
        for row in small_rows():
            text = written(row)
            self.assertEqual(text, " ".join("%d:%d" % stone for stone in row))
            self.assertEqual(read(text), row)

    def test_a_long_row(self):
        row = [(place, 20000 - place) for place in range(-10000, 10000)]
        # Not by assertEqual: told apart, lists of this length take it hours to show.
        self.assertTrue(written(row) == " ".join("%d:%d" % stone for stone in row))
        self.assertTrue(read(written(row)) == row)


class Reading(Refusing):
    def test_rows(self):
        for row, text in ROWS:
            self.assertEqual(read(text), row)

    def test_kinds(self):
        for row, text in ROWS:
            told = read(text)
            self.assertIs(type(told), list)
            self.assertTrue(all(type(stone) is tuple for stone in told))
            self.assertTrue(all(type(number) is int for stone in told for number in stone))

    def test_each_text_written_again(self):
        for row, text in ROWS:
            self.assertEqual(written(read(text)), text)

    def test_arguments_by_name(self):
        self.assertEqual(read(text="0:1"), [(0, 1)])
        self.assertEqual(written(row=[(0, 1)]), "0:1")

    def test_no_texts(self):
        for thing in NO_TEXTS:
            self.refused(BadText, read, thing)

    def test_bad_texts(self):
        for text in BAD_TEXTS:
            with self.subTest(text=text[:80]):
                self.refused(BadText, read, text)

    def test_each_sign_in_each_place(self):
        signs = [chr(code) for code in range(32, 127)] + ["\t", "\n"]
        for good in ("-5:7", "0:10 3:2"):
            for at in range(len(good) + 1):
                for sign in signs:
                    self.hold(good[:at] + sign + good[at:])
                    self.hold(good[:at] + sign + good[at + 1:])

    def test_all_short_texts(self):
        for signs, longest in (("012-+: \t\n", 5), ("01-: ", 7)):
            for count in range(longest + 1):
                for chosen in itertools.product(signs, repeat=count):
                    self.hold("".join(chosen))

    def hold(self, text):
        row = row_by_the_words(text)
        if row is None:
            self.refused(BadText, read, text)
        else:
            self.assertEqual(read(text), row)
            self.assertEqual(written(row), text)


class NothingChangedOrKept(Refusing):
    def test_the_row_is_as_it_was(self):
        for row, text in ROWS:
            before = list(row)
            written(row)
            self.assertEqual(row, before)
            self.assertTrue(all(one is other for one, other in zip(row, before)))

    def test_a_refused_row_is_as_it_was(self):
        for row in ([(0, 1), (2, 1), (1, 1)], [(0, 1), [1, 1]], [(0, 1), (SIXTY_ONE, 1)]):
            before = copy.deepcopy(row)
            self.refused(BadRow, written, row)
            self.assertEqual(row, before)

    def test_a_refused_thing_is_as_it_was(self):
        thing = ["0:1"]
        self.refused(BadText, read, thing)
        self.assertEqual(thing, ["0:1"])

    def test_changing_what_was_told_changes_nothing(self):
        for row, text in ROWS:
            told = read(text)
            told.append((SIXTY, 5))
            told.reverse()
            self.assertEqual(read(text), row)

    def test_what_is_told_is_new(self):
        for row, text in ROWS:
            self.assertIsNot(read(text), read(text))

    def test_a_row_that_was_changed_is_written_anew(self):
        row = [(0, 1)]
        self.assertEqual(written(row), "0:1")
        row.append((2, 3))
        self.assertEqual(written(row), "0:1 2:3")


if __name__ == "__main__":
    unittest.main()
