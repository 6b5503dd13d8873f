import itertools
import random
import unittest

from tests.houses import (
    DARK_ROOM, EXAMPLE, LIT_ROOM, MOST_ROOMS, HouseCase, all_houses, all_walks, can_be_cut, can_be_cut_in_many,
    corridor, cut_in_many, cut_in_two, half_shut, large_houses, many_houses, mixed, passes, ring, same_walks, walks_of,
)
from turnhouse.building import again, backwards, behind, both, either, opposite

ONLY_EMPTY = [(1, 1, True), (1, 1, False)]
ALL_BUT_EMPTY = [(1, 1, False), (1, 1, True)]
ONE_LEFT = [(1, 2, False), (2, 2, True), (2, 2, False)]

# The most that `behind`, `again` and `backwards` are handed.
FEW_ROOMS = 8


def small_houses():
    plain = [DARK_ROOM, LIT_ROOM, ONLY_EMPTY, ALL_BUT_EMPTY, ONE_LEFT, EXAMPLE, ring(3, {0}), ring(4, {1, 2})]
    larger = [corridor(FEW_ROOMS), ring(FEW_ROOMS, {0}), ring(FEW_ROOMS, {3, 4, 6}), half_shut(FEW_ROOMS)]
    return plain + larger + [mixed(size, seed) for size in (2, 3, 5, 7, FEW_ROOMS) for seed in range(4)]


def long_walks():
    chance = random.Random(7)
    return ["".join(chance.choice("lr") for _ in range(chance.randint(10, 60))) for _ in range(40)]


class Opposite(HouseCase):
    def check(self, house):
        answer = self.built(opposite, house)
        self.assertEqual(walks_of(answer, 7), set(all_walks(7)) - walks_of(house, 7))
        for walk in long_walks():
            self.assertNotEqual(passes(answer, walk), passes(house, walk))
        return answer

    def test_houses(self):
        for house in small_houses() + large_houses():
            self.check(house)

    def test_all_and_none(self):
        self.assertEqual(walks_of(self.check(LIT_ROOM), 7), set())
        self.assertEqual(walks_of(self.check(DARK_ROOM), 7), set(all_walks(7)))

    def test_twice_gives_the_walks_of_the_house(self):
        for house in many_houses():
            self.assertTrue(same_walks(opposite(opposite(house)), house))
            self.assertFalse(same_walks(opposite(house), house))


class BothAndEither(HouseCase):
    def check(self, one, other):
        in_both = self.built(both, one, other)
        in_either = self.built(either, one, other)
        self.assertEqual(walks_of(in_both, 6), walks_of(one, 6) & walks_of(other, 6))
        self.assertEqual(walks_of(in_either, 6), walks_of(one, 6) | walks_of(other, 6))
        for walk in long_walks():
            self.assertIs(passes(in_both, walk), passes(one, walk) and passes(other, walk))
            self.assertIs(passes(in_either, walk), passes(one, walk) or passes(other, walk))

    def test_every_two_houses(self):
        for one, other in itertools.product(small_houses(), repeat=2):
            self.check(one, other)

    def test_larger_houses(self):
        houses = [mixed(30, 1), mixed(40, 2), ring(25, {0, 7}), ring(26, {13}), corridor(20), half_shut(24)]
        for one, other in itertools.product(houses + [DARK_ROOM, LIT_ROOM], repeat=2):
            self.check(one, other)

    def test_the_most_rooms(self):
        houses = [ring(MOST_ROOMS, {0}), ring(MOST_ROOMS - 1, {0}), corridor(MOST_ROOMS), mixed(MOST_ROOMS, 1),
                  mixed(MOST_ROOMS, 2), LIT_ROOM, DARK_ROOM]
        for one, other in itertools.combinations_with_replacement(houses, 2):
            self.check(one, other)

    def test_walks_that_are_long_before_anything_passes(self):
        one, other = corridor(MOST_ROOMS), ring(MOST_ROOMS, {249})
        in_both = both(one, other)
        for turns in (248, 249, 250, 499):
            self.assertIs(passes(in_both, "l" * turns), turns % 250 == 249)
        rings = both(ring(MOST_ROOMS, {0}), ring(MOST_ROOMS - 1, {0}))
        for turns in (0, 249, 250, 249 * 250, 249 * 250 + 1):
            self.assertIs(passes(rings, "l" * turns), turns % (249 * 250) == 0)

    def test_all_and_none(self):
        for house in small_houses():
            self.assertTrue(same_walks(both(house, LIT_ROOM), house))
            self.assertTrue(same_walks(both(DARK_ROOM, house), DARK_ROOM))
            self.assertTrue(same_walks(either(house, LIT_ROOM), LIT_ROOM))
            self.assertTrue(same_walks(either(DARK_ROOM, house), house))

    def test_a_house_and_itself(self):
        for house in small_houses():
            self.assertTrue(same_walks(both(house, house), house))
            self.assertTrue(same_walks(either(house, house), house))


class Behind(HouseCase):
    def check(self, one, other):
        answer = self.built(behind, one, other)
        self.assertEqual(walks_of(answer, 6), cut_in_two(walks_of(one, 6), walks_of(other, 6), 6))
        return answer

    def test_every_two_houses(self):
        for one, other in itertools.product(small_houses(), repeat=2):
            self.check(one, other)

    def test_every_two_of_at_most_two_rooms(self):
        houses = all_houses(1) + all_houses(2)
        for one, other in itertools.product(houses, repeat=2):
            answer = self.built(behind, one, other)
            self.assertEqual(walks_of(answer, 4), cut_in_two(walks_of(one, 4), walks_of(other, 4), 4))

    def test_long_walks(self):
        houses = [corridor(FEW_ROOMS), ring(FEW_ROOMS, {5}), mixed(FEW_ROOMS, 2), mixed(FEW_ROOMS, 3), ONE_LEFT]
        for one, other in itertools.product(houses, repeat=2):
            answer = behind(one, other)
            for walk in long_walks():
                expected = can_be_cut(walk, lambda part: passes(one, part), lambda part: passes(other, part))
                self.assertIs(passes(answer, walk), expected)

    def test_either_part_may_be_empty(self):
        for house in small_houses():
            self.assertTrue(same_walks(self.check(ONLY_EMPTY, house), house))
            self.assertTrue(same_walks(self.check(house, ONLY_EMPTY), house))

    def test_the_one_goes_first(self):
        one_right = [(1, 2, False), (1, 1, False), (1, 1, True)]
        self.assertEqual(walks_of(self.check(ONE_LEFT, one_right), 6), {"lr"})
        self.assertEqual(walks_of(self.check(one_right, ONE_LEFT), 6), {"rl"})

    def test_all_and_none(self):
        for house in small_houses():
            self.assertTrue(same_walks(self.check(DARK_ROOM, house), DARK_ROOM))
            self.assertTrue(same_walks(self.check(house, DARK_ROOM), DARK_ROOM))
        self.assertTrue(same_walks(self.check(LIT_ROOM, LIT_ROOM), LIT_ROOM))

    def test_somewhat_more_rooms(self):
        for seed in range(4):
            self.check(mixed(FEW_ROOMS + 3, seed), mixed(FEW_ROOMS + 2, seed + 1))


class Again(HouseCase):
    def check(self, house):
        answer = self.built(again, house)
        self.assertEqual(walks_of(answer, 8), cut_in_many(walks_of(house, 8), 8))
        return answer

    def test_houses(self):
        for house in small_houses() + [mixed(FEW_ROOMS, seed) for seed in range(5, 40)]:
            self.check(house)

    def test_every_house_of_at_most_three_rooms(self):
        for house in all_houses(1) + all_houses(2) + all_houses(3)[::5]:
            answer = self.built(again, house)
            self.assertEqual(walks_of(answer, 5), cut_in_many(walks_of(house, 5), 5))

    def test_long_walks(self):
        for house in [corridor(FEW_ROOMS), ring(FEW_ROOMS, {5}), mixed(FEW_ROOMS, 2), mixed(FEW_ROOMS, 3)]:
            answer = again(house)
            for walk in long_walks() + ["l" * 70, "lr" * 20]:
                self.assertIs(passes(answer, walk), can_be_cut_in_many(walk, lambda part: passes(house, part)))

    def test_the_empty_walk_always_passes(self):
        self.assertTrue(same_walks(self.check(DARK_ROOM), ONLY_EMPTY))
        self.assertTrue(same_walks(self.check(ONLY_EMPTY), ONLY_EMPTY))
        self.assertTrue(same_walks(self.check(ALL_BUT_EMPTY), LIT_ROOM))
        self.assertTrue(same_walks(self.check(LIT_ROOM), LIT_ROOM))

    def test_a_walk_that_comes_back_to_room_nought_has_not_come_to_its_end(self):
        there_and_back = [(1, 2, False), (2, 0, True), (2, 2, False)]
        self.assertEqual(walks_of(self.check(there_and_back), 3), {"", "l", "ll", "lll", "lrl"})

    def test_twice_is_the_same_as_once(self):
        for house in [ONE_LEFT, EXAMPLE, ring(3, {1}), corridor(4), mixed(4, 2), mixed(5, 1)]:
            once = again(house)
            self.assertTrue(same_walks(again(once), once))

    def test_somewhat_more_rooms(self):
        for seed in range(4):
            self.check(mixed(FEW_ROOMS + 3, seed))


class Backwards(HouseCase):
    def check(self, house):
        answer = self.built(backwards, house)
        self.assertEqual(walks_of(answer, 7), {walk[::-1] for walk in walks_of(house, 7)})
        for walk in long_walks():
            self.assertIs(passes(answer, walk), passes(house, walk[::-1]))
        return answer

    def test_houses(self):
        for house in small_houses() + [mixed(FEW_ROOMS, seed) for seed in range(5, 40)]:
            self.check(house)

    def test_every_house_of_at_most_three_rooms(self):
        for house in all_houses(1) + all_houses(2) + all_houses(3)[::5]:
            answer = self.built(backwards, house)
            self.assertEqual(walks_of(answer, 5), {walk[::-1] for walk in walks_of(house, 5)})

    def test_all_and_none(self):
        self.assertTrue(same_walks(self.check(DARK_ROOM), DARK_ROOM))
        self.assertTrue(same_walks(self.check(LIT_ROOM), LIT_ROOM))
        self.assertTrue(same_walks(self.check(half_shut(FEW_ROOMS)), DARK_ROOM))

    def test_written_out(self):
        first_left = [(1, 2, False), (1, 1, True), (2, 2, False)]
        last_left = [(1, 0, False), (1, 0, True)]
        self.assertTrue(same_walks(self.check(first_left), last_left))
        self.assertTrue(same_walks(self.check(last_left), first_left))

    def test_twice_gives_the_walks_of_the_house(self):
        for house in small_houses():
            once = self.check(house)
            self.assertTrue(same_walks(backwards(once), house))

    def test_somewhat_more_rooms(self):
        for seed in range(4):
            self.check(mixed(FEW_ROOMS + 3, seed))


class ReckoningsOfTheTests(unittest.TestCase):
    def test_the_two_ways_to_cut_walks_agree(self):
        house = mixed(5, 1)
        parts = walks_of(house, 6)
        for walk in all_walks(6):
            self.assertEqual(walk in cut_in_many(parts, 6), can_be_cut_in_many(walk, lambda part: part in parts))


if __name__ == "__main__":
    unittest.main()
