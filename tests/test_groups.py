import unittest

from evenbeat.errors import BeatError, NoWheel
from evenbeat.groups import grouped
from tests.rows import BIG, plain_grouped, row_of

HUGE = 10 ** 3900

# Made by hand, step by step, as the document tells.
BY_HAND = {
    (0, 1): ".",
    (1, 1): "x",
    (0, 2): "..",
    (1, 2): "x.",
    (2, 2): "xx",
    (0, 3): "...",
    (1, 3): "x..",
    (2, 3): "x.x",
    (3, 3): "xxx",
    (1, 4): "x...",
    (2, 4): "x.x.",
    (3, 4): "x.xx",
    (1, 5): "x....",
    (2, 5): "x..x.",
    (3, 5): "x.xx.",
    (4, 5): "x.xxx",
    (0, 6): "......",
    (1, 6): "x.....",
    (2, 6): "x..x..",
    (3, 6): "x.x.x.",
    (4, 6): "x.xx.x",
    (5, 6): "x.xxxx",
    (6, 6): "xxxxxx",
    (2, 7): "x...x..",
    (3, 7): "x..x.x.",
    (4, 7): "x.xx.x.",
    (5, 7): "x.xxx.x",
    (3, 8): "x..x.x..",
    (5, 8): "x.xx.x.x",
    (4, 12): "x..x..x..x..",
    (5, 13): "x..x.x..x..x.",
}
NO_WHEELS = [
    (0, 0), (1, 0), (-1, 0), (5, 0),
    (0, -1), (1, -1), (-1, -1), (-2, -1), (-1, -2), (0, -BIG), (-BIG, -BIG),
    (2, 1), (5, 4), (9, 8), (121, 120), (122, 121), (BIG, 1), (BIG, 120), (HUGE, 12),
    (-1, 1), (-1, 4), (-8, 8), (-1, 120), (-1, 121), (-BIG, 8),
]
ABOVE_120 = [(0, 122), (1, 122), (122, 122), (7, 240), (0, BIG), (5, BIG), (BIG, BIG), (5, HUGE), (HUGE, HUGE)]


class GroupedTest(unittest.TestCase):
    def test_written_out(self):
        for (strokes, places), text in BY_HAND.items():
            with self.subTest(strokes=strokes, places=places):
                self.assertEqual(grouped(strokes, places), row_of(text))

    def test_arguments_by_name(self):
        self.assertEqual(grouped(strokes=2, places=5), [1, 0, 0, 1, 0])

    def test_every_wheel_of_a_row(self):
        for places in range(1, 121):
            for strokes in range(places + 1):
                row = grouped(strokes, places)
                words = f"grouped({strokes}, {places})"
                self.assertIs(type(row), list, words)
                self.assertEqual(len(row), places, words)
                # True and False are no whole numbers, though they equal 1 and 0.
                self.assertEqual({type(told) for told in row}, {int}, words)
                self.assertLessEqual(set(row), {0, 1}, words)
                self.assertEqual(sum(row), strokes, words)

    def test_every_wheel_agrees_with_groups_joined_one_by_one(self):
        for places in range(1, 121):
            for strokes in range(places + 1):
                self.assertEqual(
                    grouped(strokes, places), plain_grouped(strokes, places), f"grouped({strokes}, {places})"
                )

    def test_each_list_is_the_askers_own(self):
        for strokes, places in ((0, 1), (1, 1), (0, 5), (3, 8), (8, 8), (60, 120)):
            first = grouped(strokes, places)
            kept = list(first)
            second = grouped(strokes, places)
            self.assertIsNot(first, second)
            first[0] = 1 - first[0]
            first.append(1)
            self.assertEqual(second, kept)
            self.assertEqual(grouped(strokes, places), kept)
            first.clear()
            self.assertEqual(grouped(strokes, places), kept)


class NoWheelTest(unittest.TestCase):
    def test_no_wheel(self):
        for strokes, places in NO_WHEELS:
            with self.subTest(strokes=str(strokes)[:70], places=places):
                with self.assertRaises(NoWheel):
                    grouped(strokes, places)

    def test_120_places_are_grouped_and_121_are_not(self):
        for strokes in range(121):
            self.assertEqual(len(grouped(strokes, 120)), 120)
        for strokes in range(122):
            with self.assertRaises(NoWheel):
                grouped(strokes, 121)

    def test_far_above_120_places(self):
        for strokes, places in ABOVE_120:
            with self.assertRaises(NoWheel):
                grouped(strokes, places)

    def test_small_pairs_are_refused_just_where_they_are_no_wheel(self):
        for places in range(-4, 10):
            for strokes in range(-12, 12):
                if places >= 1 and 0 <= strokes <= places:
                    self.assertEqual(len(grouped(strokes, places)), places)
                else:
                    with self.assertRaises(NoWheel):
                        grouped(strokes, places)

    def test_is_taken_as_beat_error_too(self):
        with self.assertRaises(BeatError):
            grouped(1, 0)


if __name__ == "__main__":
    unittest.main()
