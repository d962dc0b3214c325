import unittest

from evenbeat.errors import BeatError, Uneven
from evenbeat.looking import counts, fault, mirrored, start, swapped, turned
from tests.rows import (
    BIG, drawn_rows, drawn_wheels, plain_counts, plain_even, plain_fault, plain_laid, plain_start,
    plain_turned, row_of, rows_to,
)


class CountsTest(unittest.TestCase):
    def assert_counts(self, row, width):
        told = counts(row, width)
        words = f"counts({row}, {width})"
        self.assertIs(type(told), list, words)
        self.assertEqual({type(count) for count in told}, {int}, words)
        self.assertEqual(told, plain_counts(row, width), words)

    def test_written_out(self):
        row = [1, 1, 0, 1, 0]
        self.assertEqual(counts(row, 0), [0, 0, 0, 0, 0])
        self.assertEqual(counts(row, 1), [1, 1, 0, 1, 0])
        self.assertEqual(counts(row, 2), [2, 1, 1, 1, 1])
        self.assertEqual(counts(row, 3), [2, 2, 1, 2, 2])
        self.assertEqual(counts(row, 4), [3, 2, 2, 3, 2])
        self.assertEqual(counts(row, 5), [3, 3, 3, 3, 3])

    def test_one_place(self):
        self.assertEqual(counts([0], 0), [0])
        self.assertEqual(counts([0], 1), [0])
        self.assertEqual(counts([1], 0), [0])
        self.assertEqual(counts([1], 1), [1])

    def test_arguments_by_name(self):
        self.assertEqual(counts(row=[1, 1, 0], width=2), [2, 1, 1])

    def test_every_small_row(self):
        for row in rows_to(9):
            for width in range(len(row) + 1):
                self.assert_counts(row, width)

    def test_drawn_rows(self):
        for row in drawn_rows(8, 25):
            for width in range(len(row) + 1):
                self.assert_counts(row, width)


class FaultTest(unittest.TestCase):
    def test_written_out(self):
        self.assertEqual(fault(row_of("xx..")), (2, 0, 2))
        self.assertEqual(fault(row_of("..xx")), (2, 2, 0))
        self.assertEqual(fault(row_of(".xx.")), (2, 1, 3))
        self.assertEqual(fault(row_of("x..x")), (2, 3, 1))
        self.assertEqual(fault(row_of("x.x...")), (3, 0, 3))
        self.assertEqual(fault(row_of("...x.x")), (3, 3, 0))
        self.assertEqual(fault(row_of("xx..xx..")), (2, 0, 2))

    def test_none_for_even_rows(self):
        for text in ("x", ".", "xx", "..", "x.", ".x", "x..", "x.x", "x.x.", "x..x.x..", "..x..x.x", "x......"):
            self.assertIsNone(fault(row_of(text)), text)

    def test_arguments_by_name(self):
        self.assertEqual(fault(row=[1, 1, 0, 0]), (2, 0, 2))

    def test_every_small_row(self):
        for row in rows_to(12):
            told = fault(row)
            self.assertEqual(told, plain_fault(row), row)
            if told is not None:
                self.assertIs(type(told), tuple)
                self.assertEqual([type(part) for part in told], [int, int, int])

    def test_none_just_where_the_row_is_even(self):
        for row in rows_to(12):
            self.assertEqual(fault(row) is None, plain_even(row), row)

    def test_the_two_stretches_differ_by_just_two(self):
        for row in rows_to(12) + drawn_rows(9, 25):
            told = fault(row)
            if told is not None:
                width, most, least = told
                of_width = plain_counts(row, width)
                self.assertEqual(of_width[most] - of_width[least], 2, row)

    def test_drawn_rows(self):
        for row in drawn_rows(10, 25):
            self.assertEqual(fault(row), plain_fault(row), row)

    def test_long_rows_with_a_late_fault(self):
        # Two neighbouring places of a laid row changed about: the fault may be far from width 2.
        late = 0
        for strokes, places in drawn_wheels(11, 10):
            for at in range(0, places, 29):
                row = plain_laid(strokes, places)
                row[at - 1], row[at] = row[at], row[at - 1]
                told = fault(row)
                self.assertEqual(told, plain_fault(row), row)
                late += told is not None and told[0] > 10
        self.assertGreater(late, 0)


class TurnedTest(unittest.TestCase):
    def test_written_out(self):
        row = [1, 1, 0, 1, 0]
        self.assertEqual(turned(row, 0), [1, 1, 0, 1, 0])
        self.assertEqual(turned(row, 1), [1, 0, 1, 0, 1])
        self.assertEqual(turned(row, 2), [0, 1, 0, 1, 1])
        self.assertEqual(turned(row, 4), [0, 1, 1, 0, 1])
        self.assertEqual(turned(row, 5), [1, 1, 0, 1, 0])
        self.assertEqual(turned(row, 6), [1, 0, 1, 0, 1])
        self.assertEqual(turned(row, -1), [0, 1, 1, 0, 1])
        self.assertEqual(turned(row, -2), [1, 0, 1, 1, 0])
        self.assertEqual(turned(row, -5), [1, 1, 0, 1, 0])
        self.assertEqual(turned(row, -6), [0, 1, 1, 0, 1])

    def test_by_1_where_it_is_left_out(self):
        self.assertEqual(turned([1, 1, 0, 1, 0]), [1, 0, 1, 0, 1])
        self.assertEqual(turned([0, 0, 1]), [0, 1, 0])
        self.assertEqual(turned([1]), [1])

    def test_arguments_by_name(self):
        self.assertEqual(turned(row=[1, 0, 0], by=2), [0, 1, 0])

    def test_one_place(self):
        for row in ([0], [1]):
            for by in (0, 1, -1, 2, -2, 120, BIG, -BIG):
                self.assertEqual(turned(row, by), row)

    def test_numbers_of_60_figures(self):
        self.assertEqual(len(str(BIG)), 60)
        row = [1, 1, 0, 1, 0]
        # 10 ** 59 is whole rounds of 5 places, and 7 are one round and 2.
        self.assertEqual(turned(row, BIG), [0, 1, 0, 1, 1])
        self.assertEqual(turned(row, -BIG), [1, 0, 1, 1, 0])

    def test_every_place_is_what_stands_farther_on(self):
        for row in rows_to(7) + drawn_rows(12, 20):
            places = len(row)
            rounds = places * BIG
            for by in (0, 1, -1, 2, places - 1, places, places + 1, -places, -places - 1, 3 * places + 2):
                told = turned(row, by)
                self.assertEqual(told, plain_turned(row, by), (row, by))
                self.assertEqual(turned(row, by + rounds), told, (row, by))
                self.assertEqual(turned(row, by - rounds), told, (row, by))

    def test_numbers_of_thousands_of_figures(self):
        row = [1, 1, 0, 1, 0]
        self.assertEqual(turned(row, 10 ** 3900 + 2), [0, 1, 0, 1, 1])
        self.assertEqual(turned(row, -(10 ** 3900) - 2), [1, 0, 1, 1, 0])


class MirroredTest(unittest.TestCase):
    def test_written_out(self):
        self.assertEqual(mirrored([0]), [0])
        self.assertEqual(mirrored([1]), [1])
        self.assertEqual(mirrored([1, 0]), [0, 1])
        self.assertEqual(mirrored([1, 1, 0, 1, 0]), [0, 1, 0, 1, 1])
        self.assertEqual(mirrored(row=[1, 0, 0]), [0, 0, 1])

    def test_every_small_row_and_drawn_rows(self):
        for row in rows_to(7) + drawn_rows(13, 20):
            self.assertEqual(mirrored(row), [row[len(row) - 1 - at] for at in range(len(row))])


class SwappedTest(unittest.TestCase):
    def test_written_out(self):
        self.assertEqual(swapped([0]), [1])
        self.assertEqual(swapped([1]), [0])
        self.assertEqual(swapped([1, 1, 0, 1, 0]), [0, 0, 1, 0, 1])
        self.assertEqual(swapped(row=[1, 0, 0]), [0, 1, 1])

    def test_every_small_row_and_drawn_rows(self):
        for row in rows_to(7) + drawn_rows(14, 20):
            told = swapped(row)
            self.assertEqual(told, [{0: 1, 1: 0}[place] for place in row])
            self.assertEqual({type(place) for place in told}, {int})


class StartTest(unittest.TestCase):
    def assert_uneven(self, row, expected):
        with self.assertRaises(Uneven) as caught:
            start(row)
        error = caught.exception
        self.assertEqual((error.width, error.most, error.least), expected, row)

    def test_written_out(self):
        self.assertEqual(start([0]), 0)
        self.assertEqual(start([1]), 0)
        self.assertEqual(start(row_of("..x..x.x")), 0)
        self.assertEqual(start(row_of("x..x..x.")), 1)
        self.assertEqual(start(row_of("x..x.x..")), 6)
        self.assertEqual(start(row_of("x...")), 1)
        self.assertEqual(start(row_of("xxx")), 0)
        self.assertEqual(start(row=[1, 0]), 1)

    def test_the_least_of_several(self):
        self.assertEqual(start(row_of("....")), 0)
        self.assertEqual(start(row_of("x.x.x.")), 1)
        self.assertEqual(start(row_of(".x.x.x")), 0)
        self.assertEqual(start(row_of("x..x..x..")), 1)

    def test_uneven_written_out(self):
        self.assert_uneven(row_of("xx.."), (2, 0, 2))
        self.assert_uneven(row_of("...x.x"), (3, 3, 0))

    def test_every_small_row(self):
        for row in rows_to(12):
            expected = plain_fault(row)
            if expected is None:
                told = start(row)
                self.assertIs(type(told), int)
                self.assertEqual(told, plain_start(row), row)
            else:
                self.assert_uneven(row, expected)

    def test_long_even_rows(self):
        for strokes, places in drawn_wheels(15, 10):
            for by in range(0, places, 11):
                row = plain_turned(plain_laid(strokes, places), by)
                self.assertEqual(start(row), plain_start(row), row)

    def test_drawn_uneven_rows(self):
        for row in drawn_rows(16, 20):
            expected = plain_fault(row)
            if expected is not None:
                self.assert_uneven(row, expected)

    def test_uneven_is_taken_as_beat_error_too(self):
        with self.assertRaises(BeatError):
            start([1, 1, 0, 0])


class HandedInAndToldTest(unittest.TestCase):
    ROWS = ([0], [1], [1, 1, 0, 0], [0, 0, 1, 0, 1], [1] * 120, [1, 0, 0] * 40, [1] * 60 + [0] * 60)

    def test_the_row_handed_in_is_as_it_was(self):
        asked = [
            lambda row: counts(row, 0), lambda row: counts(row, 1), lambda row: counts(row, len(row)),
            fault, turned, lambda row: turned(row, 0), lambda row: turned(row, -BIG), mirrored, swapped,
            self.start_or_uneven,
        ]
        for row in self.ROWS:
            for ask in asked:
                handed_in = list(row)
                ask(handed_in)
                self.assertEqual(handed_in, row)

    def start_or_uneven(self, row):
        try:
            start(row)
        except Uneven:
            self.assertFalse(plain_even(row))

    def test_each_list_is_a_new_one_and_the_askers_own(self):
        asked = [
            lambda row: counts(row, 0), lambda row: counts(row, 1), lambda row: counts(row, len(row)),
            turned, lambda row: turned(row, 0), lambda row: turned(row, len(row)), mirrored, swapped,
        ]
        for row in self.ROWS:
            for ask in asked:
                handed_in = list(row)
                first = ask(handed_in)
                kept = list(first)
                self.assertIs(type(first), list)
                self.assertIsNot(first, handed_in)
                self.assertIsNot(first, ask(handed_in))
                first[0] = 7
                first.append(7)
                self.assertEqual(handed_in, row)
                self.assertEqual(ask(handed_in), kept)


class BeyondTest(unittest.TestCase):
    def test_a_row_somewhat_beyond_120_places_is_not_refused(self):
        row = plain_turned(plain_laid(50, 121), 9)
        self.assertEqual(counts(row, 121), [50] * 121)
        self.assertIsNone(fault(row))
        self.assertEqual(turned(row, start(row)), plain_laid(50, 121))
        self.assertEqual(start(row), 112)


if __name__ == "__main__":
    unittest.main()
