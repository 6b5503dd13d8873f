"""Two houses gone through by one walk: pairs of rooms, the first of the one house, the second of the other."""

from turnhouse.rooms import exits_of


def exits_of_pair(one, other, pair):
    first = exits_of(one, pair[0])
    second = exits_of(other, pair[1])
    return ((first[0], second[0]), (first[1], second[1]))


def exits_in_pairs(one, other):
    return lambda pair: exits_of_pair(one, other, pair)
