"""Houses made of others.

How many rooms a house that is made here has, and how they are numbered, is free.
"""

from turnhouse.exploring import lay_out
from turnhouse.forks import again_forks, behind_forks, forks_of_house, turned_round
from turnhouse.pairs import exits_in_pairs
from turnhouse.rooms import is_lit
from turnhouse.surveying import settled


def opposite(house):
    return [(left, right, not lit) for left, right, lit in house]


def both(one, other):
    def lit(pair):
        return is_lit(one, pair[0]) and is_lit(other, pair[1])

    return lay_out((0, 0), exits_in_pairs(one, other), lit)


def either(one, other):
    def lit(pair):
        return is_lit(one, pair[0]) or is_lit(other, pair[1])

    return lay_out((0, 0), exits_in_pairs(one, other), lit)


def behind(one, other):
    return settled(behind_forks(forks_of_house(one), forks_of_house(other)))


def again(house):
    return settled(again_forks(forks_of_house(house)))


def backwards(house):
    return settled(turned_round(forks_of_house(house)))
