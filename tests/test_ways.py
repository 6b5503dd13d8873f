import unittest

from tests.houses import (
    DARK_ROOM, EXAMPLE, LIT_ROOM, MOST_ROOMS, HouseCase, all_houses, all_walks, backward_corridor, corridor, follow,
    half_shut, many_houses, mixed, ring, rooms_come_to,
)
from turnhouse.ways import some_walk, walks_up_to, ways_in


class WaysIn(HouseCase):
    def check(self, house):
        come_to = rooms_come_to(house)
        ways = self.asked(ways_in, house)
        self.assertIs(type(ways), list)
        self.assertEqual(len(ways), len(house))
        for room, walk in enumerate(ways):
            if room in come_to:
                self.assertIs(type(walk), str)
                self.assertEqual(follow(house, 0, walk), room)
            else:
                self.assertIsNone(walk)

    def test_many_houses(self):
        for house in many_houses():
            self.check(house)

    def test_every_house_of_three_rooms(self):
        for house in all_houses(3):
            self.check(house)

    def test_one_room(self):
        for house in [DARK_ROOM, LIT_ROOM]:
            self.check(house)

    def test_the_most_rooms_all_come_to(self):
        for house in [ring(MOST_ROOMS, {3}), corridor(MOST_ROOMS), backward_corridor(MOST_ROOMS)]:
            self.check(house)
            self.assertNotIn(None, ways_in(house))

    def test_the_most_rooms_half_of_them_not_come_to(self):
        house = half_shut(MOST_ROOMS)
        self.check(house)
        self.assertEqual(ways_in(house).count(None), 125)

    def test_rooms_that_lead_in_but_are_not_come_to(self):
        house = [(0, 0, False), (0, 2, True), (1, 0, True)]
        self.check(house)
        self.assertEqual(ways_in(house)[1:], [None, None])

    def test_only_one_of_the_exits_leads_on(self):
        self.check([(0, 1, False), (1, 2, False), (3, 2, False), (3, 3, True)])
        self.check([(1, 0, False), (2, 1, False), (2, 3, False), (3, 3, True)])


class SomeWalk(HouseCase):
    def check(self, house):
        lit_and_come_to = [room for room in rooms_come_to(house) if house[room][2]]
        walk = self.asked(some_walk, house)
        if lit_and_come_to:
            self.assertIs(type(walk), str)
            self.assertIn(follow(house, 0, walk), lit_and_come_to)
        else:
            self.assertIsNone(walk)

    def test_many_houses(self):
        for house in many_houses():
            self.check(house)

    def test_every_house_of_three_rooms(self):
        for house in all_houses(3):
            self.check(house)

    def test_one_room(self):
        self.assertIs(type(self.asked(some_walk, LIT_ROOM)), str)
        self.assertIsNone(self.asked(some_walk, DARK_ROOM))

    def test_a_walk_is_found_that_must_be_empty(self):
        self.assertEqual(self.asked(some_walk, [(1, 1, True), (1, 1, False)]), "")

    def test_no_lit_room_is_there(self):
        self.assertIsNone(self.asked(some_walk, ring(MOST_ROOMS, set())))

    def test_a_lit_room_is_there_but_not_come_to(self):
        self.assertIsNone(self.asked(some_walk, [(0, 0, False), (0, 1, True)]))
        self.assertIsNone(self.asked(some_walk, half_shut(MOST_ROOMS)))

    def test_the_one_lit_room_is_far_off(self):
        self.check(corridor(MOST_ROOMS))
        self.check(backward_corridor(MOST_ROOMS))


class WalksUpTo(HouseCase):
    def check(self, house, most):
        expected = [walk for walk in all_walks(most) if house[follow(house, 0, walk)][2]]
        self.assertEqual(self.asked(walks_up_to, house, most), expected)

    def test_every_small_house_at_every_length(self):
        for house in all_houses(1) + all_houses(2):
            for most in range(6):
                self.check(house, most)

    def test_houses_at_every_length(self):
        houses = [EXAMPLE, LIT_ROOM, DARK_ROOM, ring(3, {0, 2}), ring(5, {3}), corridor(4), half_shut(6)]
        for house in houses + [mixed(size, seed) for size in (3, 5, 9) for seed in range(3)]:
            for most in range(11):
                self.check(house, most)

    def test_the_most_rooms(self):
        for house in [mixed(MOST_ROOMS, 1), ring(MOST_ROOMS, {0, 4, 248}), corridor(MOST_ROOMS)]:
            for most in range(11):
                self.check(house, most)

    def test_written_out(self):
        self.assertEqual(walks_up_to(LIT_ROOM, 2), ["", "l", "r", "ll", "lr", "rl", "rr"])
        self.assertEqual(walks_up_to([(0, 1, False), (1, 0, True)], 3), ["r", "lr", "rl", "llr", "lrl", "rll", "rrr"])

    def test_order_and_each_once(self):
        for house in [LIT_ROOM, ring(4, {1, 2}), mixed(7, 3)]:
            walks = walks_up_to(house, 10)
            self.assertEqual(walks, sorted(set(walks), key=lambda walk: (len(walk), walk)))

    def test_the_empty_walk_alone(self):
        self.assertEqual(self.asked(walks_up_to, LIT_ROOM, 0), [""])
        self.assertEqual(self.asked(walks_up_to, EXAMPLE, 10), [""])

    def test_no_walk(self):
        for most in range(11):
            self.assertEqual(self.asked(walks_up_to, DARK_ROOM, most), [])
            self.assertEqual(self.asked(walks_up_to, half_shut(6), most), [])
            self.assertEqual(self.asked(walks_up_to, corridor(12), most), [])

    def test_just_as_long_as_must_be(self):
        self.assertEqual(walks_up_to(corridor(11), 9), [])
        self.assertEqual(walks_up_to(corridor(11), 10), ["l" * 10])

    def test_somewhat_beyond_the_bounds_nothing_is_refused(self):
        self.check(ring(3, {1}), 12)
        self.assertEqual(walks_up_to(LIT_ROOM, -1), [])


if __name__ == "__main__":
    unittest.main()
