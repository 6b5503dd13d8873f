import itertools
import unittest

from tests.forking import houses, many_forks, mixed_forks, walks_in
from tests.houses import cut_in_many, cut_in_two, walks_of
from turnhouse.fewer import made_fewer, merged, without_useless
from turnhouse.forks import again_forks, behind_forks, both_forks, either_forks, forks_of_house, turned_round

MOST = 6


def parts():
    return [forks_of_house(house) for house in houses()[::4]] + [mixed_forks(size, 3) for size in (1, 2, 4, 5)]


class MadeOfOthers(unittest.TestCase):
    def test_of_a_house(self):
        for house in houses():
            self.assertEqual(walks_in(forks_of_house(house), MOST), walks_of(house, MOST))

    def test_behind(self):
        for one, other in itertools.product(parts(), repeat=2):
            walks = cut_in_two(walks_in(one, MOST), walks_in(other, MOST), MOST)
            self.assertEqual(walks_in(behind_forks(one, other), MOST), walks)

    def test_again(self):
        for part in parts():
            self.assertEqual(walks_in(again_forks(part), MOST), cut_in_many(walks_in(part, MOST), MOST))
            twice = again_forks(again_forks(part))
            self.assertEqual(walks_in(twice, MOST), walks_in(again_forks(part), MOST))

    def test_both_and_either(self):
        for one, other in itertools.product(parts(), repeat=2):
            walks, others = walks_in(one, MOST), walks_in(other, MOST)
            self.assertEqual(walks_in(both_forks(one, other, 1000), MOST), walks & others)
            self.assertEqual(walks_in(either_forks(one, other), MOST), walks | others)

    def test_both_with_too_many_pairs(self):
        one, other = forks_of_house([(1, 0, True), (0, 1, False)]), forks_of_house([(0, 1, True), (1, 0, False)])
        self.assertEqual(both_forks(one, other, 4).size(), 4)
        self.assertIsNone(both_forks(one, other, 3))

    def test_turned_round(self):
        for forks in many_forks():
            backwards = {walk[::-1] for walk in walks_in(forks, MOST)}
            self.assertEqual(walks_in(turned_round(forks), MOST), backwards)

    def test_parts_are_left_as_they_are(self):
        for part in parts():
            before = ([list(lots) for lots in part.exits], part.first, part.lit)
            again_forks(part)
            behind_forks(part, part)
            either_forks(part, part)
            both_forks(part, part, 1000)
            made_fewer(part)
            turned_round(part)
            self.assertEqual(([list(lots) for lots in part.exits], part.first, part.lit), before)


class Fewer(unittest.TestCase):
    def test_the_same_walks_with_fewer_rooms(self):
        for forks in many_forks():
            walks = walks_in(forks, MOST)
            for make in (without_useless, merged, made_fewer):
                fewer = make(forks)
                self.assertEqual(walks_in(fewer, MOST), walks, make.__name__)
                self.assertLessEqual(fewer.size(), forks.size())
            self.assertLessEqual(made_fewer(forks).size(), without_useless(forks).size())

    def test_useless_rooms_are_left_out(self):
        # Room 1 isn't come to; from room 2 nothing passes.
        forks = without_useless(forks_of_house([(2, 0, True), (0, 0, True), (2, 2, False)]))
        self.assertEqual((forks.size(), forks.exits, forks.first, forks.lit), (1, ([0], [1]), 1, 1))

    def test_nothing_passes(self):
        self.assertEqual(made_fewer(forks_of_house([(1, 1, False), (0, 0, False)])).size(), 0)

    def test_copies_are_merged(self):
        house = forks_of_house([(1, 0, False), (2, 1, False), (0, 2, True)])
        twice = either_forks(house, house)
        self.assertEqual(made_fewer(twice).size(), 3)
        self.assertEqual(made_fewer(either_forks(twice, twice)).size(), 3)


if __name__ == "__main__":
    unittest.main()
