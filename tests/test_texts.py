import unittest

from evenbeat.errors import BeatError, NoRow
from evenbeat.texts import read, shown
from tests.rows import drawn_rows, rows_to

ROWS = {
    "x": [1],
    ".": [0],
    "x.": [1, 0],
    "..x..x.x": [0, 0, 1, 0, 0, 1, 0, 1],
    "x" * 120: [1] * 120,
    "." * 120: [0] * 120,
    "x.." * 40: [1, 0, 0] * 40,
}
OTHER_SIGNS = (
    "X", " ", "\n", "\r", "\t", "\0", "o", "0", "1", ",", ":", "-", "_", "*", "|", "\\", "y", "w",
    "\u00d7", "\u0445", "\u2026", "\u3002", "\uff0e", "\uff58", "\u2007", "\u200b", "\ufeff", "\u0301", "\ud800",
    "\U0001d431",
)


class ShownTest(unittest.TestCase):
    def test_written_out(self):
        for text, row in ROWS.items():
            told = shown(row)
            self.assertIs(type(told), str)
            self.assertEqual(told, text)

    def test_arguments_by_name(self):
        self.assertEqual(shown(row=[1, 0, 0]), "x..")

    def test_every_small_row_and_drawn_rows(self):
        for row in rows_to(9) + drawn_rows(17, 40):
            self.assertEqual(shown(row), "".join(".x"[place] for place in row))

    def test_the_row_handed_in_is_as_it_was(self):
        for row in ROWS.values():
            handed_in = list(row)
            shown(handed_in)
            self.assertEqual(handed_in, row)

    def test_a_row_somewhat_beyond_120_places_is_not_refused(self):
        self.assertEqual(shown([1] * 121), "x" * 121)


class ReadTest(unittest.TestCase):
    def assert_no_row(self, text):
        with self.subTest(text=ascii(text[:130]), signs=len(text)):
            with self.assertRaises(NoRow):
                read(text)

    def test_written_out(self):
        for text, row in ROWS.items():
            told = read(text)
            self.assertIs(type(told), list)
            self.assertEqual(told, row)
            self.assertEqual({type(place) for place in told}, {int})

    def test_arguments_by_name(self):
        self.assertEqual(read(text="x.."), [1, 0, 0])

    def test_what_is_shown_is_read_back(self):
        for row in rows_to(9) + drawn_rows(18, 40):
            self.assertEqual(read(shown(row)), row)

    def test_each_list_is_the_askers_own(self):
        for text, row in ROWS.items():
            first = read(text)
            self.assertIsNot(first, read(text))
            first[0] = 1 - first[0]
            first.append(1)
            self.assertEqual(read(text), row)

    def test_no_row_for_the_empty_text(self):
        self.assert_no_row("")

    def test_no_row_above_120_signs(self):
        for text in ("x" * 121, "." * 121, "x." * 61, "x" * 1000, "." * 100000):
            self.assert_no_row(text)

    def test_no_row_with_any_other_sign(self):
        for sign in OTHER_SIGNS:
            for text in (sign, sign * 2, sign + "x..", "x" + sign + "..", "x.." + sign):
                self.assert_no_row(text)
            self.assert_no_row("x" * 119 + sign)
            self.assert_no_row(sign + "." * 119)

    def test_no_row_with_any_other_sign_of_the_first_thousands(self):
        for number in range(10000):
            sign = chr(number)
            if sign not in ("x", "."):
                with self.assertRaises(NoRow):
                    read("x" + sign)

    def test_no_row_is_mended(self):
        for text in ("x..\n", " x..", "x.. ", "x. .", "X..", "xX", "x..\n\n", "x..|", "[1, 0]", "100", "x.x\nx.x"):
            self.assert_no_row(text)

    def test_is_taken_as_beat_error_too(self):
        with self.assertRaises(BeatError):
            read("")


if __name__ == "__main__":
    unittest.main()
