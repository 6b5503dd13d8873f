import unittest

from turnhouse.errors import HouseError, NoRoom, NoWalk


class Errors(unittest.TestCase):
    def test_every_refusal_is_a_house_error(self):
        self.assertTrue(issubclass(NoRoom, HouseError))
        self.assertTrue(issubclass(NoWalk, HouseError))

    def test_every_refusal_is_a_value_error(self):
        self.assertTrue(issubclass(HouseError, ValueError))

    def test_the_two_refusals_are_told_apart(self):
        self.assertFalse(issubclass(NoRoom, NoWalk))
        self.assertFalse(issubclass(NoWalk, NoRoom))


if __name__ == "__main__":
    unittest.main()
