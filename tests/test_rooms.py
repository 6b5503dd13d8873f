import unittest

from tests.houses import (
    DARK_ROOM, EXAMPLE, LIT_ROOM, MOST_ROOMS, OTHER_SIGNS, HouseCase, all_houses, all_walks, corridor, follow,
    large_houses, many_houses, numbers_of_no_room, ring,
)
from turnhouse.errors import HouseError, NoRoom, NoWalk
from turnhouse.rooms import lets, room_at


def texts_that_are_no_walks():
    texts = []
    for sign in OTHER_SIGNS:
        texts += [sign, sign + "lr", "l" + sign + "r", "lr" + sign, "lr" * 300 + sign]
    return texts + ["L", "R", "left", "lR", "l r", " l", "r "]


class RoomAt(HouseCase):
    def test_the_empty_walk_leads_to_the_room_itself(self):
        for house in many_houses():
            for room in range(len(house)):
                self.assertEqual(self.asked(room_at, house, room, ""), room)

    def test_one_turn_goes_through_its_exit(self):
        for house in many_houses():
            for room, (left, right, _) in enumerate(house):
                self.assertEqual(self.asked(room_at, house, room, "l"), left)
                self.assertEqual(self.asked(room_at, house, room, "r"), right)

    def test_written_out(self):
        self.assertEqual(room_at(EXAMPLE, 0, "l"), 1)
        self.assertEqual(room_at(EXAMPLE, 0, "r"), 2)
        self.assertEqual(room_at(EXAMPLE, 0, "lr"), 1)
        self.assertEqual(room_at(EXAMPLE, 0, "rl"), 1)
        self.assertEqual(room_at(EXAMPLE, 0, "lll"), 1)
        self.assertEqual(room_at(EXAMPLE, 3, "rr"), 2)

    def test_short_walks_in_every_small_house(self):
        walks = all_walks(5)
        for house in all_houses(1) + all_houses(2) + [EXAMPLE]:
            for room in range(len(house)):
                for walk in walks:
                    self.assertEqual(room_at(house, room, walk), follow(house, room, walk))

    def test_long_walks(self):
        house = ring(MOST_ROOMS, {0})
        self.assertEqual(self.asked(room_at, house, 0, "l" * 100003), 3)
        self.assertEqual(self.asked(room_at, house, 7, "r" * 100003), 4)
        self.assertEqual(self.asked(room_at, house, 249, "lr" * 50000 + "l"), 0)
        for other in large_houses():
            walk = "lrrlllr" * 2000
            self.assertEqual(self.asked(room_at, other, 100, walk), follow(other, 100, walk))

    def test_exits_that_lead_to_their_own_room(self):
        house = [(0, 1, False), (2, 1, True), (2, 2, False)]
        self.assertEqual(room_at(house, 0, "lllll"), 0)
        self.assertEqual(room_at(house, 0, "llrrr"), 1)
        self.assertEqual(room_at(house, 0, "rlrlrl"), 2)
        self.assertEqual(room_at(DARK_ROOM, 0, "lr" * 5000), 0)

    def test_the_first_and_the_last_of_the_most_rooms(self):
        house = corridor(MOST_ROOMS)
        self.assertEqual(room_at(house, 0, "l" * 249), 249)
        self.assertEqual(room_at(house, 249, "l"), 249)
        self.assertEqual(room_at(house, 249, "r"), 0)

    def test_a_number_that_no_room_has_is_refused(self):
        for house in [DARK_ROOM, LIT_ROOM, EXAMPLE, ring(MOST_ROOMS, {0})]:
            for room in numbers_of_no_room(house):
                for walk in ["", "l", "r", "lrrl"]:
                    self.refused(NoRoom, room_at, house, room, walk)

    def test_a_text_that_is_no_walk_is_refused(self):
        for house in [LIT_ROOM, EXAMPLE]:
            for walk in texts_that_are_no_walks():
                for room in range(len(house)):
                    self.refused(NoWalk, room_at, house, room, walk)

    def test_where_both_are_wrong_it_is_no_room(self):
        for house in [LIT_ROOM, EXAMPLE]:
            for room in numbers_of_no_room(house):
                for walk in ["x", "lx", "xl", " ", "L", "ll?"]:
                    self.refused(NoRoom, room_at, house, room, walk)

    def test_each_refusal_is_a_house_error_and_so_a_value_error(self):
        for error in [HouseError, ValueError]:
            self.assertRaises(error, room_at, EXAMPLE, 4, "l")
            self.assertRaises(error, room_at, EXAMPLE, 0, "x")
            self.assertRaises(error, room_at, EXAMPLE, 4, "x")


class Lets(HouseCase):
    def test_the_empty_walk_passes_where_room_nought_is_lit(self):
        for house in many_houses():
            self.assertIs(self.asked(lets, house, ""), house[0][2])

    def test_written_out(self):
        self.assertIs(lets(EXAMPLE, ""), True)
        self.assertIs(lets(EXAMPLE, "l"), False)
        self.assertIs(lets(EXAMPLE, "rlr"), False)
        self.assertIs(lets(ring(3, {1}), "l"), True)
        self.assertIs(lets(ring(3, {1}), "r"), False)
        self.assertIs(lets(ring(3, {1}), "rr"), True)

    def test_short_walks_in_many_houses(self):
        walks = all_walks(6)
        for house in many_houses():
            for walk in walks:
                self.assertIs(lets(house, walk), house[follow(house, 0, walk)][2])

    def test_one_room(self):
        for walk in all_walks(4) + ["lr" * 5000]:
            self.assertIs(self.asked(lets, LIT_ROOM, walk), True)
            self.assertIs(self.asked(lets, DARK_ROOM, walk), False)

    def test_long_walks_through_the_most_rooms(self):
        house = corridor(MOST_ROOMS)
        self.assertIs(self.asked(lets, house, "l" * 249), True)
        self.assertIs(self.asked(lets, house, "l" * 248), False)
        self.assertIs(self.asked(lets, house, "l" * 10000), True)
        self.assertIs(self.asked(lets, house, "l" * 10000 + "r"), False)

    def test_a_text_that_is_no_walk_is_refused(self):
        for house in [DARK_ROOM, LIT_ROOM, EXAMPLE]:
            for walk in texts_that_are_no_walks():
                self.refused(NoWalk, lets, house, walk)

    def test_the_refusal_is_a_house_error_and_so_a_value_error(self):
        for error in [HouseError, ValueError]:
            self.assertRaises(error, lets, EXAMPLE, "lx")


if __name__ == "__main__":
    unittest.main()
