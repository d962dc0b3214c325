"""What the document promises over the whole program, [2] and [3]."""

import unittest

from evenbeat.errors import Uneven
from evenbeat.groups import grouped
from evenbeat.laying import laid
from evenbeat.looking import counts, fault, mirrored, start, swapped, turned
from tests.rows import drawn_rows, drawn_wheels, plain_even, rows_to

SMALL_WHEELS = [(strokes, places) for places in range(1, 41) for strokes in range(places + 1)]


class EvenRowsTest(unittest.TestCase):
    def assert_even(self, row, words):
        self.assertIsNone(fault(row), words)

    def assert_all_even(self, row, turns, words):
        self.assert_even(row, words)
        self.assert_even(mirrored(row), ("mirrored", words))
        self.assert_even(swapped(row), ("swapped", words))
        self.assert_even(mirrored(swapped(row)), ("mirrored and swapped", words))
        for by in turns:
            self.assert_even(turned(row, by), ("turned", by, words))

    def assert_wheel_is_even(self, strokes, places, turns):
        self.assert_all_even(laid(strokes, places), turns, ("laid", strokes, places))
        self.assert_all_even(grouped(strokes, places), turns, ("grouped", strokes, places))

    def test_small_wheels(self):
        for strokes, places in SMALL_WHEELS:
            self.assert_wheel_is_even(strokes, places, (1, -1, places // 2, places + 3))

    def test_smallest_wheels_turned_by_every_number(self):
        for strokes, places in SMALL_WHEELS:
            if places <= 16:
                self.assert_wheel_is_even(strokes, places, range(-places, places + 1))

    def test_drawn_wheels(self):
        for strokes, places in drawn_wheels(3, 60):
            self.assert_wheel_is_even(strokes, places, (1, -1, places // 3))

    def test_small_wheels_are_even_reckoned_plainly(self):
        for strokes, places in SMALL_WHEELS:
            if places <= 20:
                self.assertTrue(plain_even(laid(strokes, places)), ("laid", strokes, places))
                self.assertTrue(plain_even(grouped(strokes, places)), ("grouped", strokes, places))

    def test_of_each_small_even_row_the_changed_ones_are_even(self):
        for row in rows_to(10):
            if plain_even(row):
                self.assert_all_even(row, range(len(row)), row)


class EveryRowTest(unittest.TestCase):
    def assert_promise(self, row):
        told = fault(row)
        if told is None:
            self.assertEqual(turned(row, start(row)), laid(sum(row), len(row)), row)
            return
        width, most, least = told
        of_width = counts(row, width)
        self.assertEqual(of_width[most] - of_width[least], 2, row)
        for lesser in range(width):
            self.assertLess(max(counts(row, lesser)) - min(counts(row, lesser)), 2, row)
        with self.assertRaises(Uneven) as caught:
            start(row)
        error = caught.exception
        self.assertEqual((error.width, error.most, error.least), told, row)

    def test_every_small_row(self):
        for row in rows_to(12):
            self.assert_promise(row)

    def test_drawn_rows(self):
        for row in drawn_rows(4, 100):
            self.assert_promise(row)

    def test_rows_by_groups_read_as_laid_rows_from_the_start_on(self):
        for strokes, places in SMALL_WHEELS + drawn_wheels(5, 40):
            by_groups = grouped(strokes, places)
            for row in (by_groups, mirrored(by_groups), turned(laid(strokes, places), -7)):
                self.assertIsNone(fault(row), (strokes, places))
                self.assert_promise(row)

    def test_a_swapped_row_has_the_fault_of_the_row_the_other_way_about(self):
        for row in rows_to(10):
            told = fault(row)
            other_way = None if told is None else (told[0], told[2], told[1])
            self.assertEqual(fault(swapped(row)), other_way, row)


if __name__ == "__main__":
    unittest.main()
