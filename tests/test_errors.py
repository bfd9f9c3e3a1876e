"""The refusals of the interface: their classes, and what an Endless keeps."""

import unittest

from mirrorhouse.errors import Endless, HouseError, NoHouse, NoText, NoWord, TooMany

REFUSALS = (NoText, NoHouse, NoWord, TooMany, Endless)


class RefusalClasses(unittest.TestCase):
    def test_any_refusal_is_a_value_error(self):
        self.assertEqual(HouseError.__bases__, (ValueError,))

    def test_each_refusal_stands_under_house_error_alone(self):
        for refusal in REFUSALS:
            with self.subTest(refusal=refusal.__name__):
                self.assertEqual(refusal.__bases__, (HouseError,))

    def test_no_refusal_stands_under_another(self):
        for one in REFUSALS:
            for other in REFUSALS:
                self.assertEqual(issubclass(one, other), one is other)

    def test_each_refusal_is_taken_as_a_house_error(self):
        for refusal in (NoText, NoHouse, NoWord, TooMany):
            with self.subTest(refusal=refusal.__name__):
                with self.assertRaises(HouseError):
                    raise refusal("its own words")


class EndlessMirrors(unittest.TestCase):
    def test_the_field_is_set_when_it_is_made(self):
        error = Endless([0, 2, 5])
        self.assertEqual(error.mirrors, [0, 2, 5])
        self.assertIs(type(error.mirrors), list)

    def test_it_is_raised_and_taken_with_its_field(self):
        with self.assertRaises(Endless) as taken:
            raise Endless([1, 2])
        self.assertEqual(taken.exception.mirrors, [1, 2])

    def test_it_keeps_a_copy(self):
        mirrors = [0, 1]
        error = Endless(mirrors)
        mirrors.append(2)
        self.assertEqual(error.mirrors, [0, 1])
        self.assertNotIn("2", str(error))

    def test_the_list_handed_in_stays_as_it_was(self):
        mirrors = [0, 1]
        error = Endless(mirrors)
        error.mirrors.append(2)
        self.assertEqual(mirrors, [0, 1])

    def test_two_of_them_stay_apart(self):
        mirrors = [0, 1]
        one = Endless(mirrors)
        other = Endless(mirrors)
        one.mirrors.clear()
        self.assertEqual(other.mirrors, [0, 1])


if __name__ == "__main__":
    unittest.main()
