import itertools
import unittest

from tests.houses import (
    DARK_ROOM, EXAMPLE, LIT_ROOM, MOST_ROOMS, HouseCase, all_houses, backward_corridor, corridor, half_shut,
    kinds_of_rooms, large_houses, many_houses, mixed, order_of_meeting, renumbered, ring, rooms_come_to, same_walks,
    walks_of, with_copies, with_rooms_not_come_to,
)
from turnhouse.least import least


class Least(HouseCase):
    def check(self, house):
        answer = self.built(least, house)
        self.assertTrue(same_walks(house, answer))
        self.assertEqual(rooms_come_to(answer), set(range(len(answer))))
        self.assertEqual(len(set(kinds_of_rooms(answer))), len(answer))
        self.assertEqual(order_of_meeting(answer), list(range(len(answer))))
        self.assertEqual(self.built(least, answer), answer)
        return answer

    def test_the_example(self):
        self.assertEqual(self.built(least, EXAMPLE), [(1, 1, True), (1, 1, False)])

    def test_every_small_house(self):
        for house in all_houses(1) + all_houses(2) + all_houses(3):
            self.check(house)

    def test_many_houses(self):
        for house in many_houses():
            self.check(house)

    def test_the_same_short_walks(self):
        for house in [EXAMPLE, ring(6, {1, 4}), corridor(5), half_shut(8)] + [mixed(9, seed) for seed in range(20)]:
            self.assertEqual(walks_of(self.check(house), 8), walks_of(house, 8))

    def test_one_room(self):
        self.assertEqual(self.check(DARK_ROOM), [(0, 0, False)])
        self.assertEqual(self.check(LIT_ROOM), [(0, 0, True)])

    def test_all_rooms_alike(self):
        self.assertEqual(self.check(ring(MOST_ROOMS, set())), [(0, 0, False)])
        self.assertEqual(self.check(ring(MOST_ROOMS, set(range(MOST_ROOMS)))), [(0, 0, True)])

    def test_rooms_that_are_not_come_to(self):
        self.assertEqual(self.check([(0, 0, False), (0, 1, True)]), [(0, 0, False)])
        self.assertEqual(self.check(half_shut(MOST_ROOMS)), [(0, 0, False)])
        for house in [DARK_ROOM, LIT_ROOM, EXAMPLE, ring(9, {2, 3}), mixed(12, 7)]:
            self.assertEqual(self.check(with_rooms_not_come_to(house)), self.check(house))

    def test_rooms_that_are_there_several_times(self):
        for house in [DARK_ROOM, LIT_ROOM, EXAMPLE, corridor(30), mixed(12, 3), mixed(80, 1)]:
            for times in (2, 3):
                self.assertEqual(self.check(with_copies(house, times)), self.check(house))

    def test_the_order_of_the_numbers(self):
        self.assertEqual(self.check([(2, 1, False), (1, 1, True), (1, 2, False)]),
                         [(1, 2, False), (2, 1, False), (2, 2, True)])
        self.assertEqual(self.check([(0, 2, True), (0, 0, False), (3, 1, False), (3, 0, False)]),
                         [(0, 1, True), (2, 3, False), (2, 0, False), (0, 0, False)])
        self.assertEqual(self.check([(0, 3, False), (1, 1, True), (0, 1, True), (2, 3, True)]),
                         [(0, 1, False), (2, 1, True), (0, 3, True), (3, 3, True)])
        self.assertEqual(self.check(ring(5, {0})),
                         [(1, 2, True), (3, 0, False), (0, 4, False), (4, 1, False), (2, 3, False)])

    def test_the_most_rooms_all_of_them_told_apart(self):
        for house in [ring(MOST_ROOMS, {0}), corridor(MOST_ROOMS), backward_corridor(MOST_ROOMS)]:
            self.assertEqual(len(self.check(house)), MOST_ROOMS)
        self.assertEqual(self.check(corridor(MOST_ROOMS)), corridor(MOST_ROOMS))

    def test_the_most_rooms_few_of_them_told_apart(self):
        self.assertEqual(len(self.check(ring(MOST_ROOMS, set(range(0, 250, 5))))), 5)
        self.assertEqual(len(self.check(with_copies(corridor(25), 10))), 25)

    def test_the_same_walks_give_the_same_least_house(self):
        for house in large_houses() + [EXAMPLE, mixed(13, 1), mixed(14, 2)]:
            for step in (17, 500):
                self.assertEqual(self.built(least, renumbered(house, step)), least(house))

    def test_two_small_houses_have_the_same_least_house_just_where_they_have_the_same_walks(self):
        houses = all_houses(1) + all_houses(2) + all_houses(3)[::97]
        # In houses of at most three rooms the walks of at most four turns tell all differences.
        answers = [(frozenset(walks_of(house, 4)), tuple(least(house))) for house in houses]
        self.assertEqual(len({walks for walks, _ in answers}), len(set(answers)))
        self.assertEqual(len({house for _, house in answers}), len(set(answers)))

    def test_no_smaller_house_has_the_same_walks(self):
        for house in all_houses(3)[::31]:
            for size in range(1, len(least(house))):
                self.assertFalse(any(same_walks(house, smaller) for smaller in all_houses(size)))

    def test_what_comes_back_is_not_what_was_handed_in(self):
        house = [(1, 1, True), (1, 1, False)]
        least(house).append("another")
        self.assertEqual(house, [(1, 1, True), (1, 1, False)])


class LeastOfTwoAtATime(HouseCase):
    def test_pairs_of_middling_houses(self):
        houses = [mixed(size, seed) for size in (4, 5, 6) for seed in range(8)]
        for one, other in itertools.combinations(houses, 2):
            self.assertEqual(same_walks(one, other), least(one) == least(other))


if __name__ == "__main__":
    unittest.main()
