"""Walks that tell rooms and houses apart."""

from turnhouse.exploring import first_walk
from turnhouse.pairs import exits_in_pairs
from turnhouse.rooms import check_room, is_lit


def apart_from(one, other, start):
    # The pair that a walk leads to from the first pair shows whether the walk tells the two apart.
    return first_walk(start, exits_in_pairs(one, other), lambda pair: is_lit(one, pair[0]) != is_lit(other, pair[1]))


def told_apart(house, one, other):
    check_room(house, one)
    check_room(house, other)
    return apart_from(house, house, (one, other))


def difference(one, other):
    return apart_from(one, other, (0, 0))
