import unittest

from turnhouse.exploring import explore, walk_to


def two_clocks(pair):
    first, second = pair
    return ((first + 1) % 149, (second + 1) % 151), pair


class Exploring(unittest.TestCase):
    def test_the_first_place_has_no_step(self):
        self.assertEqual(explore(5, lambda place: (place, place)), {5: None})

    def test_places_stand_in_the_order_in_which_they_are_first_met(self):
        exits = {0: (3, 1), 1: (2, 4), 2: (2, 2), 3: (0, 4), 4: (5, 3), 5: (5, 5)}
        self.assertEqual(list(explore(0, lambda place: exits[place])), [0, 3, 1, 4, 2, 5])

    def test_the_walk_is_the_shortest_and_of_those_the_leftmost(self):
        exits = {0: (1, 2), 1: (0, 3), 2: (3, 3), 3: (3, 0)}
        steps = explore(0, lambda place: exits[place])
        self.assertEqual([walk_to(steps, place) for place in range(4)], ["", "l", "r", "lr"])

    def test_places_that_are_not_come_to_are_left_out(self):
        exits = {0: (1, 1), 1: (0, 1), 2: (0, 1)}
        self.assertEqual(sorted(explore(0, lambda place: exits[place])), [0, 1])

    def test_many_places_far_from_the_first(self):
        steps = explore((0, 0), two_clocks)
        self.assertEqual(len(steps), 149 * 151)
        self.assertEqual(walk_to(steps, (148, 150)), "l" * (149 * 151 - 1))


if __name__ == "__main__":
    unittest.main()
