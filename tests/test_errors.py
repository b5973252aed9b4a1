import unittest

from atmost.errors import BadCount, BadNumber, BadPlace, BadSayings, Broken, SayError


class Errors(unittest.TestCase):
    def test_say_error_stands_straight_under_value_error(self):
        self.assertEqual(SayError.__bases__, (ValueError,))

    def test_the_five_stand_straight_under_say_error(self):
        for error in (BadCount, BadSayings, BadPlace, BadNumber, Broken):
            self.assertEqual(error.__bases__, (SayError,))

    def test_names(self):
        names = [error.__name__ for error in (SayError, BadCount, BadSayings, BadPlace, BadNumber, Broken)]
        self.assertEqual(names, ["SayError", "BadCount", "BadSayings", "BadPlace", "BadNumber", "Broken"])

    def test_broken_has_its_ring(self):
        self.assertEqual(Broken([2, 0, 1]).ring, [2, 0, 1])
        self.assertEqual(Broken(ring=[0]).ring, [0])

    def test_broken_does_not_keep_the_list(self):
        chain = [0, 1]
        error = Broken(chain)
        chain.append(2)
        self.assertEqual(error.ring, [0, 1])
        self.assertFalse(any(value is chain for value in error.args))

    def test_broken_is_taken_as_value_error(self):
        with self.assertRaises(ValueError) as caught:
            raise Broken([0])
        self.assertEqual(caught.exception.ring, [0])
        self.assertIsInstance(str(caught.exception), str)
