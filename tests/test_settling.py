import itertools
import unittest

from tests.forking import many_forks, mixed_forks, passes_from, rooms_of, walks_in
from tests.houses import all_walks, corridor, passes, same_walks, walks_of
from turnhouse.claims import Proof
from turnhouse.forks import Forks, again_forks, behind_forks, either_forks, forks_of_house, turned_round
from turnhouse.guessing import Excess, Guess, learn_excess
from turnhouse.least import least
from turnhouse.lots import lot_of
from turnhouse.settling import Settling, least_settled
from turnhouse.surveying import Survey, settled
from turnhouse.within import lots_within

MOST = 6


def harder_forks():
    """With more rooms, so that not all that is guessed at first is right."""
    made = [mixed_forks(size, seed) for size in (12, 16, 20) for seed in range(12)]
    made += [again_forks(behind_forks(mixed_forks(5, seed), mixed_forks(6, seed + 1))) for seed in range(12)]
    return made


def turn_at_place_from_the_end(turn, place):
    """A walk may at any such turn begin to count to its end. Without forks it takes two to the power of `place` rooms."""
    ahead = [1 << room + 1 for room in range(1, place)] + [0]
    begun = {"l": (0b11, 0b1), "r": (0b1, 0b11)}[turn]
    return Forks([begun[0]] + ahead, [begun[1]] + ahead, 0b1, 1 << place)


class Surveys(unittest.TestCase):
    def test_the_same_walks(self):
        for forks in many_forks():
            self.assertEqual(walks_of(settled(forks), MOST), walks_in(forks, MOST))

    def test_left_off_and_gone_on_with(self):
        for forks in harder_forks():
            survey = Survey(forks)
            for most in itertools.count(1):
                survey.go_on(most)
                self.assertLessEqual(len(survey.lots), most + 2)
                if survey.is_whole():
                    break
                self.assertGreater(len(survey.lots), most)
            self.assertEqual(survey.rooms, settled(forks))


class Guesses(unittest.TestCase):
    def test_with_all_probes_it_is_the_least_house(self):
        for forks in many_forks() + harder_forks():
            probes = Survey(turned_round(forks))
            probes.go_on(10 ** 6)
            house = Guess(forks, probes.lots).as_house()
            self.assertEqual(least(house), least(settled(forks)))
            self.assertEqual(len(house), len(least(house)))

    def test_there_are_never_too_many_rooms(self):
        for forks in harder_forks():
            guess = Guess(forks, [])
            rooms = len(least(settled(forks)))
            self.assertLessEqual(len(guess.lots), rooms)
            for walk in all_walks(5):
                guess.learn_walk(["lr".index(turn) for turn in walk])
                self.assertLessEqual(len(guess.lots), rooms)
                self.assertIs(passes(guess.as_house(), walk), passes_from(forks, rooms_of(forks.first), walk))
            houses = [least(settled(Forks(forks.exits[0], forks.exits[1], lot, forks.lit))) for lot in guess.lots]
            self.assertEqual(len({tuple(house) for house in houses}), len(houses))

    def test_a_walk_that_passes_in_the_guess_alone_is_no_excess(self):
        forks = forks_of_house(corridor(6))
        guess = Guess(forks, [])
        learn_excess(guess)
        self.assertIsNone(Excess(guess).walk())

    def test_all_that_passes_passes_in_the_guess(self):
        for forks in harder_forks():
            guess = Guess(forks, [])
            learn_excess(guess)
            house = guess.as_house()
            self.assertLessEqual(walks_in(forks, 7), walks_of(house, 7))


class Within(unittest.TestCase):
    def test_just_those_from_which_no_other_walk_passes(self):
        for forks in [mixed_forks(6, seed) for seed in range(10)] + [again_forks(mixed_forks(5, 4))]:
            guess = Guess(forks, [])
            house = guess.as_house()
            within = lots_within(guess)
            places = [{walk for walk in all_walks(7) if passes_from(forks, {room}, walk)}
                      for room in range(forks.size())]
            for room in range(len(house)):
                from_room = [house[room]] + [(left + 1, right + 1, lit) for left, right, lit in house]
                from_room[0] = (house[room][0] + 1, house[room][1] + 1, house[room][2])
                places.append(walks_of(from_room, 7))
            self.assertEqual(within[:forks.size()], [1 << room for room in range(forks.size())])
            for room in range(forks.size(), len(places)):
                inner = lot_of([place for place in range(len(places)) if places[place] <= places[room]])
                self.assertEqual(within[room], inner)


class Proofs(unittest.TestCase):
    def check(self, forks, probes):
        proof = Proof(forks, probes)
        while not proof.is_proven:
            proof.go_on(10)
        house = proof.guess.as_house()
        self.assertEqual(least(house), least(settled(forks)))
        self.assertEqual(len(house), len(least(house)))

    def test_only_what_is_right_is_proven(self):
        for forks in many_forks() + harder_forks():
            self.check(forks, [])

    def test_with_some_probes(self):
        for forks in harder_forks():
            probes = Survey(turned_round(forks))
            probes.go_on(8)
            self.check(forks, probes.lots)

    def test_many_rooms(self):
        self.check(turn_at_place_from_the_end("l", 8), [])
        from_the_end = either_forks(turn_at_place_from_the_end("l", 7), turn_at_place_from_the_end("r", 8))
        self.check(either_forks(from_the_end, turned_round(from_the_end)), [])


class EachWay(unittest.TestCase):
    def test_all_ways_agree(self):
        for forks in many_forks() + harder_forks():
            self.assertEqual(least_settled([forks]), least(settled(forks)))
            self.assertEqual(least_settled([forks, forks]), least(settled(forks)))

    def test_none_where_it_does_not_suffice(self):
        settling = Settling(turn_at_place_from_the_end("l", 5))
        self.assertIsNone(settling.surveyed_within(3))
        self.assertIsNone(settling.proven_within(3))
        self.assertTrue(same_walks(settling.surveyed_within(40), settled(turn_at_place_from_the_end("l", 5))))
        self.assertTrue(same_walks(settling.proven_within(1000), settled(turn_at_place_from_the_end("l", 5))))

    def test_many_lots_told_one_way_and_few_told_the_other(self):
        self.assertEqual(len(least_settled([turned_round(turn_at_place_from_the_end("l", 30))])), 32)

    def test_many_lots_told_either_way(self):
        # With a left or a right at that place from the end or from the beginning: all walks that are long enough.
        from_the_end = either_forks(turn_at_place_from_the_end("l", 25), turn_at_place_from_the_end("r", 25))
        forks = either_forks(from_the_end, turned_round(from_the_end))
        house = [(room + 1, room + 1, False) for room in range(25)] + [(25, 25, True)]
        self.assertEqual(least_settled([forks]), house)


if __name__ == "__main__":
    unittest.main()
