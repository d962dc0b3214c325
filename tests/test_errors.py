import unittest

from evenbeat.errors import BeatError, NoRow, NoStroke, NoWheel, Uneven

REFUSALS = (NoWheel, NoStroke, NoRow, Uneven)


class ErrorsTest(unittest.TestCase):
    def test_each_stands_under_beat_error_and_value_error(self):
        self.assertTrue(issubclass(BeatError, ValueError))
        for refusal in REFUSALS:
            with self.subTest(refusal=refusal.__name__):
                self.assertTrue(issubclass(refusal, BeatError))
                self.assertTrue(issubclass(refusal, ValueError))

    def test_none_of_the_four_stands_under_another(self):
        for one in REFUSALS:
            for other in REFUSALS:
                if one is not other:
                    with self.subTest(one=one.__name__, other=other.__name__):
                        self.assertFalse(issubclass(one, other))

    def test_beat_error_stands_under_none_of_the_four(self):
        for refusal in REFUSALS:
            self.assertFalse(issubclass(BeatError, refusal))

    def test_each_is_taken_as_beat_error_and_as_value_error(self):
        made = (NoWheel("no"), NoStroke("no"), NoRow("no"), Uneven(3, 2, 1))
        for error in made:
            for base in (BeatError, ValueError):
                with self.subTest(error=repr(error), base=base.__name__):
                    with self.assertRaises(base) as caught:
                        raise error
                    self.assertIs(caught.exception, error)


class UnevenTest(unittest.TestCase):
    def test_fields_of_any_three_whole_numbers(self):
        for width, most, least in ((2, 0, 1), (0, 0, 0), (-1, -2, -3), (10 ** 60, -(10 ** 60), 7)):
            with self.subTest(width=width, most=most, least=least):
                error = Uneven(width, most, least)
                self.assertEqual((error.width, error.most, error.least), (width, most, least))

    def test_fields_by_name(self):
        error = Uneven(width=5, most=3, least=4)
        self.assertEqual((error.width, error.most, error.least), (5, 3, 4))

    def test_each_object_has_its_own_fields(self):
        first = Uneven(1, 2, 3)
        Uneven(4, 5, 6)
        self.assertEqual((first.width, first.most, first.least), (1, 2, 3))

    def test_fields_are_there_when_it_is_taken(self):
        with self.assertRaises(Uneven) as caught:
            raise Uneven(4, 0, 6)
        error = caught.exception
        self.assertEqual((error.width, error.most, error.least), (4, 0, 6))

    def test_all_three_are_asked_for(self):
        with self.assertRaises(TypeError):
            Uneven(1, 2)


if __name__ == "__main__":
    unittest.main()
