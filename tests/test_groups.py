import unittest

from tests.houses import (
    MOST_ROOMS, all_houses, corridor, kinds_of_rooms, many_houses, mixed, ring, with_copies, with_rooms_not_come_to,
)
from turnhouse.groups import Groups


class GroupsOfRooms(unittest.TestCase):
    def check(self, house):
        groups = Groups(house)
        kinds = kinds_of_rooms(house)
        # As many pairs as there are kinds, and as groups: each kind is one group.
        pairs = set(zip(groups.group_of, kinds))
        self.assertEqual(len(pairs), len(set(kinds)))
        self.assertEqual(len(pairs), len(set(groups.group_of)))
        for number, rooms in enumerate(groups.members):
            self.assertEqual(sorted(rooms), [room for room in range(len(house)) if groups.group_of[room] == number])

    def test_every_house_of_three_rooms(self):
        for house in all_houses(3):
            self.check(house)

    def test_many_houses(self):
        for house in many_houses():
            self.check(house)
            self.check(with_rooms_not_come_to(house))

    def test_copies(self):
        for times in (2, 3, 10):
            for house in [corridor(9), ring(8, {1, 5}), ring(9, {1, 5}), mixed(11, 5)]:
                self.check(with_copies(house, times))

    def test_rings_that_are_alike_all_round(self):
        for every in (2, 5, 10, 25):
            self.check(ring(MOST_ROOMS, set(range(0, MOST_ROOMS, every))))

    def test_very_large_houses_do_not_take_long(self):
        # In both all rooms are told apart, some of them by very long walks alone.
        self.assertEqual(len(set(Groups(corridor(20000)).group_of)), 20000)
        self.assertEqual(len(set(Groups(ring(20000, {0})).group_of)), 20000)


if __name__ == "__main__":
    unittest.main()
