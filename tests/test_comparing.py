import itertools
import unittest

from tests.houses import (
    DARK_ROOM, EXAMPLE, LIT_ROOM, MOST_ROOMS, HouseCase, all_houses, backward_corridor, corridor, follow, half_shut,
    kinds_of_rooms, large_houses, many_houses, mixed, numbers_of_no_room, passes, renumbered, ring, same_walks,
    with_copies, with_rooms_not_come_to,
)
from turnhouse.comparing import difference, told_apart
from turnhouse.errors import HouseError, NoRoom


class ToldApart(HouseCase):
    def check(self, house, pairs):
        kinds = kinds_of_rooms(house)
        for one, other in pairs:
            walk = self.asked(told_apart, house, one, other)
            if kinds[one] == kinds[other]:
                self.assertIsNone(walk)
            else:
                self.assertIs(type(walk), str)
                self.assertEqual(set(walk) - set("lr"), set())
                self.assertNotEqual(house[follow(house, one, walk)][2], house[follow(house, other, walk)][2])

    def check_all(self, house):
        self.check(house, itertools.product(range(len(house)), repeat=2))

    def test_every_small_house(self):
        for house in all_houses(1) + all_houses(2) + all_houses(3)[::7]:
            self.check_all(house)

    def test_houses_of_some_rooms(self):
        for house in [mixed(size, seed) for size in range(3, 15) for seed in range(4)]:
            self.check_all(house)

    def test_written_out(self):
        self.assertEqual(told_apart(EXAMPLE, 0, 1), "")
        self.assertEqual(told_apart(EXAMPLE, 3, 2), "")
        self.assertIsNone(told_apart(EXAMPLE, 1, 2))
        self.assertEqual(told_apart([(0, 1, False), (0, 2, False), (2, 2, True)], 0, 1), "r")
        self.assertEqual(told_apart([(1, 0, False), (2, 1, False), (2, 2, True)], 1, 0), "l")

    def test_a_room_and_itself(self):
        for house in many_houses():
            for room in {0, len(house) // 2, len(house) - 1}:
                self.assertIsNone(self.asked(told_apart, house, room, room))

    def test_rooms_that_are_there_several_times(self):
        for house in [EXAMPLE, ring(5, {2}), mixed(7, 2)]:
            self.check_all(with_copies(house, 3))
            for room in range(len(house)):
                self.assertIsNone(told_apart(with_copies(house, 3), room, room + 2 * len(house)))

    def test_rooms_that_are_not_come_to(self):
        self.assertEqual(told_apart([(0, 0, False), (1, 1, True), (2, 1, False)], 0, 2), "r")
        self.check_all(half_shut(12))
        self.check_all(with_rooms_not_come_to(ring(4, {1})))

    def test_only_a_long_walk_tells_apart(self):
        self.assertEqual(told_apart(corridor(MOST_ROOMS), 0, 1), "l" * 248)
        self.assertEqual(len(told_apart(backward_corridor(MOST_ROOMS), 2, 3)), 1)
        self.assertEqual(len(told_apart(ring(MOST_ROOMS, {0}), 124, 125)), 124)

    def test_the_most_rooms(self):
        for house in large_houses():
            size = len(house)
            rooms = list(range(0, size, 31)) + [1, 2, size - 2, size - 1]
            self.check(house, itertools.product(rooms, repeat=2))

    def test_all_pairs_of_the_most_rooms(self):
        house = mixed(MOST_ROOMS, 1)
        kinds = kinds_of_rooms(house)
        for one, other in itertools.product(range(MOST_ROOMS), repeat=2):
            self.assertEqual(told_apart(house, one, other) is None, kinds[one] == kinds[other])

    def test_a_large_house_in_which_nothing_is_told_apart(self):
        house = with_copies([(0, 0, True)], MOST_ROOMS)
        self.check(house, [(0, 249), (17, 130)])
        self.check(ring(MOST_ROOMS, set()), [(0, 249), (17, 130)])

    def test_a_number_that_no_room_has_is_refused(self):
        for house in [DARK_ROOM, LIT_ROOM, EXAMPLE, ring(MOST_ROOMS, {0})]:
            for wrong in numbers_of_no_room(house):
                for room in {0, len(house) - 1}:
                    self.refused(NoRoom, told_apart, house, wrong, room)
                    self.refused(NoRoom, told_apart, house, room, wrong)
                self.refused(NoRoom, told_apart, house, wrong, wrong)
                self.refused(NoRoom, told_apart, house, wrong, -7)
                self.refused(NoRoom, told_apart, house, 10 ** 9, wrong)

    def test_the_refusal_is_a_house_error_and_so_a_value_error(self):
        for error in [HouseError, ValueError]:
            self.assertRaises(error, told_apart, EXAMPLE, 4, 0)
            self.assertRaises(error, told_apart, EXAMPLE, 0, -1)


class Difference(HouseCase):
    def check(self, one, other):
        walk = self.asked(difference, one, other)
        if same_walks(one, other):
            self.assertIsNone(walk)
        else:
            self.assertIs(type(walk), str)
            self.assertEqual(set(walk) - set("lr"), set())
            self.assertNotEqual(passes(one, walk), passes(other, walk))

    def test_every_two_small_houses(self):
        houses = all_houses(1) + all_houses(2)
        for one, other in itertools.product(houses, repeat=2):
            self.check(one, other)

    def test_houses_of_different_sizes(self):
        houses = [EXAMPLE, DARK_ROOM, LIT_ROOM] + [mixed(size, seed) for size in range(2, 12) for seed in range(3)]
        for one, other in itertools.product(houses, repeat=2):
            self.check(one, other)

    def test_written_out(self):
        self.assertEqual(difference(LIT_ROOM, DARK_ROOM), "")
        self.assertEqual(difference([(0, 1, True), (1, 1, False)], LIT_ROOM), "r")
        self.assertIsNone(difference(EXAMPLE, [(1, 1, True), (1, 1, False)]))
        self.assertIsNone(difference(ring(3, set()), DARK_ROOM))

    def test_a_house_and_itself(self):
        for house in many_houses():
            self.assertIsNone(self.asked(difference, house, house))

    def test_a_house_and_one_with_its_rooms_there_several_times(self):
        for house in [DARK_ROOM, LIT_ROOM, EXAMPLE, corridor(20), mixed(9, 4), mixed(80, 3)]:
            for times in (2, 3):
                self.assertIsNone(self.asked(difference, house, with_copies(house, times)))
                self.assertIsNone(self.asked(difference, with_copies(house, times), house))
                self.check(with_copies(house, 2), with_copies(house, 3))

    def test_a_house_and_the_same_in_another_order(self):
        for house in large_houses() + [mixed(9, 4)]:
            self.assertIsNone(self.asked(difference, house, renumbered(house, 17)))

    def test_rooms_that_are_not_come_to_make_no_difference(self):
        for house in [DARK_ROOM, EXAMPLE, ring(7, {3})]:
            self.assertIsNone(self.asked(difference, house, with_rooms_not_come_to(house)))

    def test_only_a_long_walk_tells_apart(self):
        self.assertEqual(self.asked(difference, corridor(MOST_ROOMS), corridor(MOST_ROOMS - 1)), "l" * 248)
        self.assertEqual(self.asked(difference, corridor(MOST_ROOMS), DARK_ROOM), "l" * 249)
        self.assertEqual(len(self.asked(difference, LIT_ROOM, ring(MOST_ROOMS, set(range(250)) - {125}))), 125)

    def test_the_most_rooms_and_no_difference_but_many_pairs(self):
        one = ring(MOST_ROOMS, set(range(0, 250, 2)))
        other = ring(MOST_ROOMS - 2, set(range(0, 248, 2)))
        self.assertIsNone(self.asked(difference, one, other))

    def test_the_most_rooms_apart(self):
        houses = large_houses()
        for one, other in itertools.combinations(houses, 2):
            self.check(one, other)


if __name__ == "__main__":
    unittest.main()
