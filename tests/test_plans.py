import itertools
import random
import unittest

from tests.houses import (
    ALL, ANY_TURN, LEFT, NONE, RIGHT, STILL, HouseCase, all_walks, can_be_cut, can_be_cut_in_many, in_a_row,
    kinds_of_rooms, mixed_plan, order_of_meeting, passes, repeated, seconds_at_most, walks_of, walks_that_fit, words_in,
    wrapped,
)
from turnhouse.plans import house_of

MOST_WORDS = 100
MOST_ROOMS = 1000

PLAIN = [NONE, STILL, LEFT, RIGHT]


def made_of(plans):
    """All plans of one word more around these."""
    single = [(word, plan) for word in ("not", "many") for plan in plans]
    double = [(word, one, other) for word in ("both", "either", "then") for one, other in
              itertools.product(plans, repeat=2)]
    return single + double


def fits(plan, walk):
    """For one walk, which may be long, whether it fits the plan."""
    known = {}

    def part_fits(part, piece):
        if (part, piece) not in known:
            known[part, piece] = worked_out(part, piece)
        return known[part, piece]

    def worked_out(part, piece):
        word = part[0]
        if word == "none":
            return False
        if word == "still":
            return piece == ""
        if word == "turn":
            return piece == part[1]
        if word == "not":
            return not part_fits(part[1], piece)
        if word == "both":
            return part_fits(part[1], piece) and part_fits(part[2], piece)
        if word == "either":
            return part_fits(part[1], piece) or part_fits(part[2], piece)
        if word == "then":
            return can_be_cut(piece, lambda first: part_fits(part[1], first), lambda second: part_fits(part[2], second))
        return can_be_cut_in_many(piece, lambda some: part_fits(part[1], some))

    return part_fits(plan, walk)


def counted(turn, other, times):
    """The walks in which the number of such turns can be divided by `times`."""
    between = [("many", other), turn] * (times - 1)
    return ("many", ("either", other, in_a_row(turn, *between)))


def lefts(times):
    """Just so many lefts, with any rights ahead of each."""
    return repeated(("then", ("many", RIGHT), LEFT), times)


def rights(times):
    return repeated(("then", ("many", LEFT), RIGHT), times)


def turns(times):
    return repeated(ANY_TURN, times)


def one_of(*plans):
    row = plans[-1]
    for plan in reversed(plans[:-1]):
        row = ("either", plan, row)
    return row


def left_at_place_from_the_end(place):
    return in_a_row(ALL, LEFT, *[ANY_TURN] * (place - 1))


class PlanCase(HouseCase):
    def check_least(self, house):
        self.assertEqual(order_of_meeting(house), list(range(len(house))))
        self.assertEqual(len(set(kinds_of_rooms(house))), len(house))

    def check(self, plan, most):
        house = self.built(house_of, plan)
        self.assertEqual(walks_of(house, most), walks_that_fit(plan, most), plan)
        self.check_least(house)
        return house


class EachKind(PlanCase):
    def test_the_plain_ones_written_out(self):
        self.assertEqual(self.check(NONE, 5), [(0, 0, False)])
        self.assertEqual(self.check(STILL, 5), [(1, 1, True), (1, 1, False)])
        self.assertEqual(self.check(LEFT, 5), [(1, 2, False), (2, 2, True), (2, 2, False)])
        self.assertEqual(self.check(RIGHT, 5), [(1, 2, False), (1, 1, False), (1, 1, True)])

    def test_others_written_out(self):
        self.assertEqual(self.check(("not", NONE), 5), [(0, 0, True)])
        self.assertEqual(self.check(("not", STILL), 5), [(1, 1, False), (1, 1, True)])
        self.assertEqual(self.check(("many", NONE), 5), [(1, 1, True), (1, 1, False)])
        self.assertEqual(self.check(("many", LEFT), 5), [(0, 1, True), (1, 1, False)])
        self.assertEqual(self.check(("either", LEFT, RIGHT), 5), [(1, 1, False), (2, 2, True), (2, 2, False)])
        self.assertEqual(self.check(("both", LEFT, RIGHT), 5), [(0, 0, False)])
        self.assertEqual(self.check(("then", LEFT, RIGHT), 5),
                         [(1, 2, False), (2, 3, False), (2, 2, False), (2, 2, True)])

    def test_all_plans_with_one_and_two_words_around(self):
        around_plain = made_of(PLAIN)
        for plan in around_plain:
            self.check(plan, 5)
        for plan in made_of(PLAIN + around_plain):
            self.check(plan, 4)

    def test_then_with_an_empty_part(self):
        for plan in [STILL, LEFT, ALL, ("many", RIGHT), ("not", LEFT)]:
            self.assertEqual(self.check(("then", STILL, plan), 6), house_of(plan))
            self.assertEqual(self.check(("then", plan, STILL), 6), house_of(plan))
            self.assertEqual(self.check(("then", NONE, plan), 6), house_of(NONE))
            self.assertEqual(self.check(("then", plan, NONE), 6), house_of(NONE))

    def test_many_always_lets_the_empty_walk_pass(self):
        for plan in PLAIN + made_of(PLAIN):
            self.assertIn("", walks_of(self.check(("many", plan), 5), 0))


class PlansWithinPlans(PlanCase):
    def test_mixed_plans(self):
        chance = random.Random(11)
        for number in range(600):
            self.check(mixed_plan(chance.randint(3, 40), chance), 6)

    def test_mixed_plans_of_many_words(self):
        chance = random.Random(12)
        for number in range(60):
            self.check(mixed_plan(MOST_WORDS, chance), 6)

    def test_long_walks(self):
        chance = random.Random(13)
        walks = ["".join(chance.choice("lr") for _ in range(chance.randint(8, 18))) for _ in range(6)]
        for number in range(40):
            plan = mixed_plan(30, chance)
            house = house_of(plan)
            for walk in walks:
                self.assertIs(passes(house, walk), fits(plan, walk))

    def test_the_same_plan_within_itself_several_times(self):
        plan = ("either", ("then", LEFT, ("many", ("then", RIGHT, LEFT))), ("not", ("many", RIGHT)))
        for around in made_of([plan]):
            self.check(around, 7)
            self.check(("then", around, ("both", plan, around)), 7)

    def test_the_house_of_a_plan_is_new_each_time(self):
        for plan in PLAIN + [ALL, ("then", LEFT, RIGHT)]:
            before = house_of(plan)
            house_of(plan).append("another")
            self.assertEqual(house_of(plan), before)


class TheSameWalksTheSameHouse(PlanCase):
    def same(self, one, other):
        self.assertEqual(self.built(house_of, one), self.built(house_of, other))

    def test_small_plans(self):
        plans = PLAIN + made_of(PLAIN)
        plans += made_of(plans[::3])
        # Two houses of at most five rooms that don't have the same walks differ in one of at most eight turns.
        answers = [(walks_that_fit(plan, 8), tuple(house_of(plan))) for plan in plans]
        answers = {(walks, house) for walks, house in answers if len(house) <= 5}
        self.assertEqual(len({walks for walks, _ in answers}), len(answers))
        self.assertEqual(len({house for _, house in answers}), len(answers))
        self.assertGreater(len(answers), 30)

    def test_laws(self):
        chance = random.Random(14)
        for number in range(60):
            one, other, third = [mixed_plan(12, chance) for _ in range(3)]
            self.same(("not", ("not", one)), one)
            self.same(("either", one, other), ("either", other, one))
            self.same(("not", ("both", one, other)), ("either", ("not", one), ("not", other)))
            self.same(("then", one, ("then", other, third)), ("then", ("then", one, other), third))
            self.same(("then", one, ("either", other, third)), ("either", ("then", one, other), ("then", one, third)))
            self.same(("many", ("many", one)), ("many", one))
            self.same(("many", ("either", one, other)), ("many", ("then", ("many", one), ("many", other))))
            self.same(("many", one), ("either", STILL, ("then", one, ("many", one))))

    def test_all_walks(self):
        for plan in [("many", ANY_TURN), ("not", ("both", LEFT, RIGHT)), ("either", LEFT, ("not", LEFT))]:
            self.same(plan, ALL)


class LargePlans(PlanCase):
    def check_large(self, plan, rooms):
        self.assertLessEqual(words_in(plan), MOST_WORDS)
        house = self.built(house_of, plan)
        self.assertEqual(len(house), rooms)
        self.check_least(house)
        return house

    def test_a_hundred_words_in_a_row(self):
        plan = ("not", repeated(LEFT, 50))
        self.assertEqual(words_in(plan), MOST_WORDS)
        house = self.check_large(plan, 52)
        for count in (0, 1, 49, 50, 51, 100):
            self.assertIs(passes(house, "l" * count), count != 50)
        self.assertIs(passes(house, "l" * 49 + "r"), True)

    def test_a_hundred_words_one_within_the_other(self):
        for words in (["not"], ["many"], ["not", "many"], ["many", "not"], ["many", "many", "not"]):
            for start in (NONE, STILL):
                plan = wrapped(words, MOST_WORDS - 1, start)
                self.assertEqual(words_in(plan), MOST_WORDS)
                self.check(plan, 6)
            self.check(wrapped(words, MOST_WORDS - 1, LEFT), 6)

    def test_somewhat_more_than_a_hundred_words(self):
        self.assertEqual(self.built(house_of, wrapped(["not"], 300, LEFT)), house_of(LEFT))
        self.assertEqual(len(self.built(house_of, repeated(LEFT, 90))), 92)

    def test_in_a_row_from_either_side(self):
        plan = LEFT
        for number in range(49):
            plan = ("then", plan, RIGHT if number % 3 else LEFT)
        self.assertEqual(words_in(plan), 99)
        house = self.check_large(plan, 52)
        walk = "l" + "".join("r" if number % 3 else "l" for number in range(49))
        self.assertIs(passes(house, walk), True)
        self.assertIs(passes(house, walk[:-1]), False)

    def test_hundreds_of_rooms(self):
        for place in (1, 2, 5, 9):
            plan = left_at_place_from_the_end(place)
            house = self.check_large(plan, 2 ** place)
            for walk in all_walks(10):
                self.assertIs(passes(house, walk), len(walk) >= place and walk[-place] == "l")
            self.check_large(("not", plan), 2 ** place)
            self.assertEqual(self.built(house_of, ("many", ("not", ("not", plan)))), house_of(("either", STILL, plan)))

    def test_nearly_a_thousand_rooms(self):
        plan = ("both", ("many", repeated(LEFT, 7)), ("both", ("many", repeated(LEFT, 11)), ("many", repeated(LEFT, 12))))
        house = self.check_large(plan, 925)
        for count in (0, 7, 77, 84, 132, 462, 923, 924, 925, 1848):
            self.assertIs(passes(house, "l" * count), count % 924 == 0)
        self.assertIs(passes(house, "l" * 923 + "r"), False)

    def test_a_left_far_from_the_beginning(self):
        house = self.check_large(in_a_row(*[ANY_TURN] * 13, LEFT, ALL), 16)
        self.assertIs(passes(house, "r" * 13 + "lr"), True)
        self.assertIs(passes(house, "l" * 13 + "rl"), False)

    def test_many_rooms_on_the_way_but_few_at_the_end(self):
        grid = ("both", counted(LEFT, RIGHT, 5), counted(RIGHT, LEFT, 5))
        self.check_large(grid, 25)
        self.assertEqual(self.check_large(("then", ALL, grid), 1), [(0, 0, True)])
        self.assertEqual(self.check_large(("then", ALL, ("not", grid)), 2), [(1, 1, False), (1, 1, True)])
        self.assertEqual(self.check_large(("many", ("either", LEFT, ("either", RIGHT, grid))), 1), [(0, 0, True)])

    def test_again_and_again(self):
        beginning = ("many", in_a_row(("many", LEFT), LEFT, ("many", RIGHT), RIGHT, RIGHT, LEFT))
        plan = ("many", ("then", beginning, counted(RIGHT, LEFT, 6)))
        house = self.check_large(plan, 157)
        for times in range(1, 4):
            self.assertEqual(self.built(house_of, wrapped(["many"], times, plan)), house)

    def test_houses_that_must_be_least_at_once(self):
        plan = ("either", left_at_place_from_the_end(4), ("many", repeated(RIGHT, 3)))
        for number in range(8):
            plan = ("both", ("either", plan, NONE), ALL)
        for number in range(2):
            plan = ("not", ("many", plan))
        self.check(plan, 8)


class HardPlans(PlanCase):
    """Plans for which houses on the way would have very many rooms, if these were not kept few by all means."""

    def check_hard(self, plan, rooms):
        self.assertLessEqual(words_in(plan), MOST_WORDS)
        with seconds_at_most(60):
            house = self.built(house_of, plan)
        self.assertEqual(len(house), rooms)
        self.check_least(house)
        return house

    def check_told_otherwise(self, plan, other, rooms):
        self.assertEqual(self.check_hard(plan, rooms), self.check_hard(other, rooms))

    def check_some_walks(self, plan, house):
        chance = random.Random(21)
        for number in range(60):
            walk = "".join(chance.choice("lr") for _ in range(chance.randint(0, 24)))
            self.assertIs(passes(house, walk), fits(plan, walk), walk)

    def test_written_out(self):
        plan = ("many", one_of(("many", turns(3)), ("many", turns(5)), ("many", lefts(4))))
        self.assertEqual(words_in(plan), 55)
        house = self.check_hard(plan, 24)
        self.assertEqual(house, [
            (1, 2, True), (3, 4, False), (4, 5, False), (6, 7, False), (7, 8, False), (8, 9, False), (10, 11, True),
            (12, 13, True), (14, 15, True), (15, 16, True), (10, 10, True), (17, 18, False), (19, 18, False),
            (18, 19, False), (20, 19, False), (19, 17, False), (17, 17, False), (21, 21, True), (21, 22, True),
            (22, 21, True), (22, 22, True), (23, 23, True), (10, 23, True), (10, 10, False),
        ])
        self.check_some_walks(plan, house)

    def test_many_of_either_of_many(self):
        for parts, rooms in [
            ((turns(3), lefts(5)), 104), ((turns(4), rights(5)), 251), ((turns(5), lefts(4)), 278),
            ((lefts(3), rights(5)), 217), ((turns(2), lefts(9)), 231), ((turns(4), turns(6), lefts(3)), 24),
            ((turns(6), lefts(4)), 584), ((turns(7), rights(3)), 626),
        ]:
            plan = ("many", one_of(*[("many", part) for part in parts]))
            self.check_told_otherwise(plan, ("many", one_of(*parts)), rooms)

    def test_many_of_then_of_many(self):
        for one, other, rooms in [
            (lefts(4), turns(4), 127), (rights(5), turns(3), 104), (lefts(6), rights(3), 441), (turns(5), lefts(3), 145),
        ]:
            flat = ("many", one_of(one, other))
            for plan in [("then", ("many", one), ("many", other)), ("then", ("many", other), ("many", one)),
                         ("then", ("many", one), ("either", STILL, other))]:
                self.check_told_otherwise(("many", plan), flat, rooms)

    def test_then_from_either_end(self):
        by_three, by_four = ("many", lefts(3)), ("many", turns(4))
        by_six_and_five = ("both", ("many", lefts(6)), ("many", turns(5)))
        for one, other, third, rooms in [
            (by_three, by_six_and_five, by_four, 43), (by_six_and_five, by_three, by_four, 43),
            (by_four, by_three, by_six_and_five, 33),
        ]:
            self.check_told_otherwise(("then", one, ("then", other, third)), ("then", ("then", one, other), third), rooms)

    def test_not_in_other_places(self):
        one, other = ("many", turns(5)), ("many", lefts(5))
        plan = ("many", ("either", one, other))
        for otherwise in [
            ("not", ("both", ("not", one), ("not", other))),
            ("not", ("not", ("either", one, other))),
            ("either", ("not", ("not", ("not", ("not", other)))), one),
            ("both", ("either", one, other), ("not", NONE)),
            ("not", ("both", ("not", other), ("not", ("both", one, ("many", ANY_TURN))))),
        ]:
            self.check_told_otherwise(plan, ("many", otherwise), 546)

    def test_with_no_short_way_but_a_proof(self):
        for one, other, third, rooms in [(turns(9), turns(4), lefts(2), 761), (lefts(4), turns(8), turns(3), 532)]:
            outer = ("then", ("many", one), ("not", ("either", ("many", other), ("many", third))))
            plan = ("many", ("not", outer))
            self.check_some_walks(plan, self.check_hard(plan, rooms))

    def test_both_and_not_within(self):
        for times, rooms in [(3, 19), (4, 31), (5, 53), (7, 175), (9, 580)]:
            part = ("both", ("not", ("many", rights(3))), in_a_row(("many", ANY_TURN), LEFT, ANY_TURN, ANY_TURN))
            plan = ("many", ("either", part, ("many", turns(times))))
            self.check_told_otherwise(plan, ("many", ("either", part, turns(times))), rooms)


if __name__ == "__main__":
    unittest.main()
