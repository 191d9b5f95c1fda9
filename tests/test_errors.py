"""The interface's part on errors: which class stands under which, and the fields of Faulty."""

import unittest

from midlanes.errors import Faulty, LaneError, NoText, NotFormed


class Classes(unittest.TestCase):
    def test_any_refusal_is_a_value_error(self):
        self.assertTrue(issubclass(LaneError, ValueError))

    def test_each_refusal_is_a_lane_error_of_its_own(self):
        for one in (NoText, NotFormed, Faulty):
            self.assertTrue(issubclass(one, LaneError), one)
            self.assertIsNot(one, LaneError)

    def test_no_refusal_stands_under_another_one(self):
        refusals = (NoText, NotFormed, Faulty)
        for one in refusals:
            self.assertFalse(issubclass(LaneError, one), one)
            for other in refusals:
                if one is not other:
                    self.assertFalse(issubclass(one, other), (one, other))


class FaultyFields(unittest.TestCase):
    def test_fields(self):
        error = Faulty(7, "edge")
        self.assertEqual(error.k, 7)
        self.assertEqual(error.word, "edge")

    def test_the_first_stand(self):
        error = Faulty(0, "paper")
        self.assertEqual((error.k, error.word), (0, "paper"))
        self.assertIs(type(error.k), int)

    def test_each_error_has_its_own_fields(self):
        one = Faulty(1, "deed")
        other = Faulty(99, "round")
        self.assertEqual((one.k, one.word), (1, "deed"))
        self.assertEqual((other.k, other.word), (99, "round"))

    def test_taken_as_any_refusal_it_still_tells_its_fault(self):
        with self.assertRaises(LaneError) as caught:
            raise Faulty(3, "round")
        self.assertIsInstance(caught.exception, ValueError)
        self.assertIsInstance(caught.exception, Faulty)
        self.assertEqual((caught.exception.k, caught.exception.word), (3, "round"))


if __name__ == "__main__":
    unittest.main()
