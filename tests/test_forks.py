import itertools
import unittest

from tests.houses import DARK_ROOM, EXAMPLE, LIT_ROOM, all_houses, corridor, mixed, ring, same_walks
from turnhouse.covering import covers_of
from turnhouse.forks import again_forks, behind_forks, settled
from turnhouse.least import least
from turnhouse.sparing import again_forks_backwards, behind_forks_backwards, least_again, least_behind, turned_round


def houses():
    return all_houses(1) + all_houses(2)[::5] + [EXAMPLE, ring(4, {1}), corridor(5), mixed(4, 1), mixed(5, 3)]


def walks_from(rooms, here, walk):
    """Whether a walk may lead from one of the rooms to a lit one."""
    for turn in walk:
        here = {there for room in here for there in rooms[room]["lr".index(turn)]}
    return any(rooms[room][2] for room in here)


class Covering(unittest.TestCase):
    def check(self, rooms):
        covers = covers_of(rooms)
        walks = ["".join(turns) for length in range(7) for turns in itertools.product("lr", repeat=length)]
        for room in range(len(rooms)):
            for other in covers[room]:
                self.assertNotEqual(room, other)
                self.assertNotIn(room, covers[other])
                for walk in walks:
                    self.assertLessEqual(walks_from(rooms, {room}, walk), walks_from(rooms, {other}, walk))

    def test_who_takes_a_place_lets_pass_as_much(self):
        for one, other in itertools.product(houses()[::3], repeat=2):
            self.check(behind_forks(one, other).rooms)
        for house in houses():
            self.check(again_forks(house).rooms)

    def test_written_out(self):
        # Room 0 lets nothing pass, room 1 all, room 2 the empty walk, room 3 the same as room 2.
        rooms = [((0,), (0,), False), ((1,), (1,), True), ((0,), (0,), True), ((0,), (0,), True)]
        self.assertEqual(covers_of(rooms), [{1: True, 2: True, 3: True}, {}, {1: True}, {1: True, 2: True}])

    def test_a_fork_that_helps(self):
        # Room 0 leads to a lit room that leads on, and to one that does not; room 1 to the second one alone.
        rooms = [((2, 3), (4,), False), ((3,), (4,), False), ((2,), (4,), True), ((4,), (4,), True), ((4,), (4,), False)]
        covers = covers_of(rooms)
        self.assertIn(0, covers[1])
        self.assertNotIn(1, covers[0])
        self.assertEqual(covers[3], {2: True})


class AllWaysAgree(unittest.TestCase):
    def check(self, forks, backwards, answer):
        plain = settled(forks, None, None)
        spared = settled(forks, covers_of(forks.rooms), None)
        turned = turned_round(backwards, 10 ** 6)
        self.assertTrue(same_walks(plain, spared))
        self.assertTrue(same_walks(plain, turned))
        self.assertLessEqual(len(spared), len(plain))
        self.assertEqual(answer, least(plain))

    def test_behind(self):
        for one, other in itertools.product(houses(), repeat=2):
            backwards = behind_forks_backwards(one, other, 10 ** 6)
            self.check(behind_forks(one, other), backwards, least_behind(one, other))

    def test_again(self):
        for house in houses() + [mixed(size, seed) for size in range(2, 9) for seed in range(10)]:
            self.check(again_forks(house), again_forks_backwards(house, 10 ** 6), least_again(house))

    def test_too_many_rooms(self):
        self.assertIsNone(settled(again_forks(corridor(6)), None, 3))
        self.assertIsNone(behind_forks_backwards(corridor(6), LIT_ROOM, 3))
        self.assertIsNone(behind_forks_backwards(LIT_ROOM, corridor(6), 3))
        self.assertIsNone(again_forks_backwards(corridor(6), 3))
        self.assertIsNone(turned_round(None, 3))
        self.assertIsNone(turned_round(again_forks(corridor(6)), 3))
        self.assertEqual(least_behind(DARK_ROOM, LIT_ROOM), DARK_ROOM)


if __name__ == "__main__":
    unittest.main()
