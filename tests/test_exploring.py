import unittest

from turnhouse.exploring import explore, first_walk, lay_out, walk_to


def two_clocks(pair):
    first, second = pair
    return ((first + 1) % 149, (second + 1) % 151), pair


def explore_all(start, exits):
    steps, found = explore(start, exits, lambda place: False)
    assert found is None
    return steps


class Exploring(unittest.TestCase):
    def test_the_first_place_has_no_step(self):
        self.assertEqual(explore_all(5, lambda place: (place, place)), {5: None})

    def test_places_stand_in_the_order_in_which_they_are_first_met(self):
        exits = {0: (3, 1), 1: (2, 4), 2: (2, 2), 3: (0, 4), 4: (5, 3), 5: (5, 5)}
        self.assertEqual(list(explore_all(0, lambda place: exits[place])), [0, 3, 1, 4, 2, 5])

    def test_the_walk_is_the_shortest_and_of_those_the_leftmost(self):
        exits = {0: (1, 2), 1: (0, 3), 2: (3, 3), 3: (3, 0)}
        steps = explore_all(0, lambda place: exits[place])
        self.assertEqual([walk_to(steps, place) for place in range(4)], ["", "l", "r", "lr"])

    def test_places_that_are_not_come_to_are_left_out(self):
        exits = {0: (1, 1), 1: (0, 1), 2: (0, 1)}
        self.assertEqual(sorted(explore_all(0, lambda place: exits[place])), [0, 1])

    def test_many_places_far_from_the_first(self):
        steps = explore_all((0, 0), two_clocks)
        self.assertEqual(len(steps), 149 * 151)
        self.assertEqual(walk_to(steps, (148, 150)), "l" * (149 * 151 - 1))


class FirstWalk(unittest.TestCase):
    def test_the_first_place_may_be_wanted_itself(self):
        self.assertEqual(first_walk(0, lambda place: (0, 0), lambda place: True), "")

    def test_none_is_wanted(self):
        self.assertIsNone(first_walk(0, lambda place: (1 - place, place), lambda place: False))

    def test_the_nearest_of_those_wanted(self):
        exits = {0: (1, 2), 1: (3, 4), 2: (5, 2), 3: (3, 3), 4: (4, 4), 5: (5, 5)}
        self.assertEqual(first_walk(0, lambda place: exits[place], lambda place: place in (4, 5)), "lr")

    def test_nothing_is_looked_for_behind_the_first_one(self):
        # There are places without end, so that a search that goes on would not come back.
        self.assertEqual(first_walk(0, lambda place: (place + 1, place + 2), lambda place: place == 7), "lrrr")


class LayOut(unittest.TestCase):
    def test_rooms_are_numbered_as_they_are_first_met(self):
        exits = {"a": ("c", "b"), "b": ("b", "d"), "c": ("d", "a"), "d": ("a", "a"), "e": ("a", "a")}
        house = lay_out("a", lambda place: exits[place], lambda place: place in ("b", "d"))
        self.assertEqual(house, [(1, 2, False), (3, 0, False), (2, 3, True), (0, 0, True)])

    def test_one_place(self):
        self.assertEqual(lay_out("a", lambda place: ("a", "a"), lambda place: True), [(0, 0, True)])


if __name__ == "__main__":
    unittest.main()
