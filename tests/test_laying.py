import unittest
from itertools import accumulate
from operator import sub

from evenbeat.errors import BeatError, NoStroke, NoWheel
from evenbeat.laying import ahead, has_stroke, laid, place_of

BIG = 10 ** 60
HUGE = 10 ** 3900

SMALL_WHEELS = [(strokes, places) for places in range(1, 10) for strokes in range(places + 1)]
GREAT_WHEELS = [
    (0, BIG),
    (1, BIG),
    (2, BIG),
    (BIG // 3, BIG),
    (BIG // 2, BIG),
    (BIG // 2 + 1, BIG),
    (BIG - 1, BIG),
    (BIG, BIG),
    (3 ** 100, 10 ** 48 + 7),
    (7, 121),
    (1000, 1001),
    (2 ** 53 - 1, 2 ** 53 + 1),
    (HUGE // 7, HUGE),
]
NO_WHEELS = [
    (0, 0), (1, 0), (-1, 0), (5, 0),
    (0, -1), (1, -1), (-1, -1), (-2, -1), (-1, -2), (-9, -9), (0, -BIG), (-BIG, -BIG),
    (2, 1), (5, 4), (9, 8), (121, 120), (122, 121), (BIG + 1, BIG), (BIG, 1), (HUGE, 12),
    (-1, 1), (-1, 4), (-8, 8), (-1, 121), (-BIG, 8), (-1, BIG),
]


def sorts_of_places(places):
    """Places within the wheel, from `places` on and below 0, near and far."""
    near = [0, 1, 2, places // 3, places // 2, places - 2, places - 1]
    return [
        at + turns * places + beside
        for at in near
        for turns in (0, 1, 2, 10 ** 9, BIG, -1, -2, -(10 ** 9), -BIG)
        for beside in (-1, 0, 1)
    ]


def strokes_of_stretches(row):
    """For each width from 0 on, every number of strokes that a stretch of it has, round the wheel."""
    totals = list(accumulate(row + row, initial=0))
    return [set(map(sub, totals[width:width + len(row)], totals)) for width in range(len(row) + 1)]


class AheadTest(unittest.TestCase):
    def assert_ahead(self, strokes, places, at):
        # Said without a division: the greatest whole number that is not above the quotient.
        told = ahead(strokes, places, at)
        self.assertIs(type(told), int)
        self.assertTrue(
            told * places <= strokes * at < (told + 1) * places,
            f"ahead({strokes}, {places}, {at})",
        )

    def test_written_out(self):
        told = [ahead(3, 8, at) for at in range(-9, 18)]
        self.assertEqual(told, [
            -4, -3, -3, -3, -2, -2, -2, -1, -1,
            0, 0, 0, 1, 1, 1, 2, 2,
            3, 3, 3, 4, 4, 4, 5, 5,
            6, 6,
        ])

    def test_arguments_by_name(self):
        self.assertEqual(ahead(strokes=3, places=8, at=7), 2)

    def test_small_wheels(self):
        for strokes, places in SMALL_WHEELS:
            for at in range(-3 * places - 1, 3 * places + 2):
                self.assert_ahead(strokes, places, at)

    def test_small_wheels_far_round(self):
        for strokes, places in SMALL_WHEELS:
            for at in sorts_of_places(places):
                self.assert_ahead(strokes, places, at)

    def test_great_wheels(self):
        for strokes, places in GREAT_WHEELS:
            for at in sorts_of_places(places):
                self.assert_ahead(strokes, places, at)

    def test_once_round_is_strokes_more(self):
        for strokes, places in SMALL_WHEELS + GREAT_WHEELS:
            for at in sorts_of_places(places):
                self.assertEqual(ahead(strokes, places, at + places), ahead(strokes, places, at) + strokes)

    def test_none_ahead_of_place_0(self):
        for strokes, places in SMALL_WHEELS + GREAT_WHEELS:
            self.assertEqual(ahead(strokes, places, 0), 0)
            self.assertEqual(ahead(strokes, places, places), strokes)

    def test_below_0_it_is_below_0_or_0(self):
        for strokes, places in SMALL_WHEELS + GREAT_WHEELS:
            for at in (-1, -2, -places, -places - 1, -BIG):
                told = ahead(strokes, places, at)
                if strokes == 0:
                    self.assertEqual(told, 0)
                else:
                    self.assertLess(told, 0)

    def test_agrees_with_strokes_counted_one_by_one(self):
        for strokes, places in SMALL_WHEELS:
            counted = 0
            for at in range(3 * places):
                self.assertEqual(ahead(strokes, places, at), counted)
                counted += has_stroke(strokes, places, at)


class HasStrokeTest(unittest.TestCase):
    def assert_has_stroke(self, strokes, places, at):
        told = has_stroke(strokes, places, at)
        one_more = ahead(strokes, places, at + 1) == ahead(strokes, places, at) + 1
        self.assertIs(told, one_more, f"has_stroke({strokes}, {places}, {at})")

    def test_written_out(self):
        with_stroke = [at for at in range(-8, 16) if has_stroke(3, 8, at)]
        self.assertEqual(with_stroke, [-6, -3, -1, 2, 5, 7, 10, 13, 15])

    def test_arguments_by_name(self):
        self.assertIs(has_stroke(strokes=3, places=8, at=2), True)
        self.assertIs(has_stroke(strokes=3, places=8, at=3), False)

    def test_small_wheels(self):
        for strokes, places in SMALL_WHEELS:
            for at in range(-3 * places - 1, 3 * places + 2):
                self.assert_has_stroke(strokes, places, at)

    def test_great_wheels(self):
        for strokes, places in GREAT_WHEELS:
            for at in sorts_of_places(places):
                self.assert_has_stroke(strokes, places, at)

    def test_rests_alone_and_strokes_alone(self):
        for places in (1, 2, 9, 120, 121, BIG):
            for at in (0, 1, places - 1, places, -1, BIG, -BIG):
                self.assertIs(has_stroke(0, places, at), False)
                self.assertIs(has_stroke(places, places, at), True)

    def test_great_wheel_of_one_stroke(self):
        self.assertIs(has_stroke(1, BIG, BIG - 1), True)
        self.assertIs(has_stroke(1, BIG, BIG - 2), False)
        self.assertIs(has_stroke(1, BIG, 0), False)
        self.assertIs(has_stroke(1, BIG, -1), True)


class PlaceOfTest(unittest.TestCase):
    def assert_place_of(self, strokes, places, number):
        at = place_of(strokes, places, number)
        words = f"place_of({strokes}, {places}, {number})"
        self.assertIs(type(at), int)
        self.assertIs(has_stroke(strokes, places, at), True, words)
        self.assertEqual(ahead(strokes, places, at), number, words)

    def test_written_out(self):
        told = [place_of(3, 8, number) for number in range(-4, 7)]
        self.assertEqual(told, [-9, -6, -3, -1, 2, 5, 7, 10, 13, 15, 18])

    def test_arguments_by_name(self):
        self.assertEqual(place_of(strokes=3, places=8, number=1), 5)

    def test_small_wheels(self):
        for strokes, places in SMALL_WHEELS:
            if strokes > 0:
                for number in range(-3 * strokes - 1, 3 * strokes + 2):
                    self.assert_place_of(strokes, places, number)

    def test_it_is_the_one_such_place(self):
        for strokes, places in SMALL_WHEELS:
            if strokes > 0:
                seen = [at for at in range(-2 * places, 2 * places) if has_stroke(strokes, places, at)]
                told = [place_of(strokes, places, number) for number in range(-2 * strokes, 2 * strokes)]
                self.assertEqual(told, seen)

    def test_great_wheels(self):
        for strokes, places in GREAT_WHEELS:
            if strokes > 0:
                for number in sorts_of_places(strokes):
                    self.assert_place_of(strokes, places, number)

    def test_the_last_stroke_stands_at_the_last_place(self):
        for strokes, places in SMALL_WHEELS + GREAT_WHEELS:
            if strokes > 0:
                self.assertEqual(place_of(strokes, places, strokes - 1), places - 1)
                self.assertEqual(place_of(strokes, places, -1), -1)

    def test_no_stroke_for_rests_alone(self):
        for places in (1, 2, 9, 120, 121, BIG, HUGE):
            for number in (0, 1, -1, BIG, -BIG):
                with self.assertRaises(NoStroke):
                    place_of(0, places, number)

    def test_no_wheel_ahead_of_no_stroke(self):
        for places in (0, -1, -2, -120, -BIG):
            for number in (0, 1, -1):
                with self.assertRaises(NoWheel):
                    place_of(0, places, number)


class LaidTest(unittest.TestCase):
    def test_written_out(self):
        self.assertEqual(laid(0, 1), [0])
        self.assertEqual(laid(1, 1), [1])
        self.assertEqual(laid(0, 3), [0, 0, 0])
        self.assertEqual(laid(4, 4), [1, 1, 1, 1])
        self.assertEqual(laid(1, 4), [0, 0, 0, 1])
        self.assertEqual(laid(3, 8), [0, 0, 1, 0, 0, 1, 0, 1])
        self.assertEqual(laid(5, 8), [0, 1, 0, 1, 1, 0, 1, 1])

    def test_arguments_by_name(self):
        self.assertEqual(laid(strokes=2, places=5), [0, 0, 1, 0, 1])

    def test_every_row_agrees_with_has_stroke(self):
        for places in range(1, 121):
            for strokes in range(places + 1):
                row = laid(strokes, places)
                self.assertIs(type(row), list)
                self.assertEqual(len(row), places)
                self.assertEqual(sum(row), strokes)
                for at, told in enumerate(row):
                    # True and False are no whole numbers, though they equal 1 and 0.
                    self.assertIs(type(told), int)
                    one_more = strokes * (at + 1) // places - strokes * at // places
                    self.assertEqual(told, one_more, f"laid({strokes}, {places}) at {at}")

    def test_small_rows_agree_with_the_other_functions(self):
        for strokes, places in SMALL_WHEELS:
            row = laid(strokes, places)
            self.assertEqual([told == 1 for told in row], [has_stroke(strokes, places, at) for at in range(places)])
            seen = [at for at in range(places) if row[at] == 1]
            self.assertEqual(seen, [place_of(strokes, places, number) for number in range(strokes)])

    def test_every_stretch_is_even(self):
        for places in range(1, 121):
            for strokes in range(places + 1):
                for width, told in enumerate(strokes_of_stretches(laid(strokes, places))):
                    down, rest = divmod(strokes * width, places)
                    up = down + (rest > 0)
                    # On average a stretch has just the quotient, so where the two differ both must occur.
                    self.assertEqual(told, {down, up}, f"laid({strokes}, {places}), width {width}")

    def test_120_places_are_laid_and_121_are_not(self):
        for strokes in (0, 1, 60, 119, 120):
            self.assertEqual(len(laid(strokes, 120)), 120)
        for strokes in range(122):
            with self.assertRaises(NoWheel):
                laid(strokes, 121)

    def test_no_wheel_far_above_120_places(self):
        for strokes, places in ((0, 122), (122, 122), (7, 240), (0, BIG), (5, BIG), (BIG, BIG), (5, HUGE)):
            with self.assertRaises(NoWheel):
                laid(strokes, places)

    def test_only_the_row_is_bound_to_120_places(self):
        self.assertEqual(ahead(60, 121, 121), 60)
        self.assertIs(has_stroke(60, 121, 120), True)
        self.assertEqual(place_of(60, 121, 59), 120)

    def test_each_list_is_the_askers_own(self):
        for strokes, places in ((0, 1), (3, 8), (8, 8), (60, 120)):
            first = laid(strokes, places)
            kept = list(first)
            second = laid(strokes, places)
            self.assertIsNot(first, second)
            first[0] = 1 - first[0]
            first.append(1)
            self.assertEqual(second, kept)
            self.assertEqual(laid(strokes, places), kept)
            first.clear()
            self.assertEqual(laid(strokes, places), kept)


class NoWheelTest(unittest.TestCase):
    def test_by_each_function(self):
        for strokes, places in NO_WHEELS:
            for third in (0, 1, -1, 7, BIG, -BIG):
                for told in (ahead, has_stroke, place_of):
                    with self.subTest(name=told.__name__, strokes=str(strokes)[:70], places=places, third=third):
                        with self.assertRaises(NoWheel):
                            told(strokes, places, third)
            with self.subTest(name="laid", strokes=str(strokes)[:70], places=places):
                with self.assertRaises(NoWheel):
                    laid(strokes, places)

    def test_small_pairs_are_refused_just_where_they_are_no_wheel(self):
        for places in range(-4, 10):
            for strokes in range(-12, 12):
                is_wheel = places >= 1 and 0 <= strokes <= places
                self.assertEqual(self.is_taken(strokes, places), is_wheel, (strokes, places))

    def is_taken(self, strokes, places):
        answers = []
        for told in (lambda: ahead(strokes, places, 1), lambda: has_stroke(strokes, places, 1),
                     lambda: laid(strokes, places), lambda: self.place_or_no_stroke(strokes, places)):
            try:
                told()
                answers.append(True)
            except NoWheel:
                answers.append(False)
        self.assertEqual(len(set(answers)), 1, (strokes, places))
        return answers[0]

    def place_or_no_stroke(self, strokes, places):
        try:
            place_of(strokes, places, 1)
        except NoStroke:
            self.assertEqual(strokes, 0)

    def test_is_taken_as_beat_error_too(self):
        with self.assertRaises(BeatError):
            laid(1, 0)


if __name__ == "__main__":
    unittest.main()
