"""Houses made of others.

How many rooms a house that is made here has, and how they are numbered, is free.
"""

from turnhouse.exploring import lay_out
from turnhouse.forks import again_forks, behind_forks, settled
from turnhouse.pairs import exits_in_pairs
from turnhouse.rooms import is_lit


def opposite(house):
    return [(left, right, not lit) for left, right, lit in house]


def both(one, other):
    def lit(pair):
        return is_lit(one, pair[0]) and is_lit(other, pair[1])

    return lay_out((0, 0), exits_in_pairs(one, other), lit, None)


def either(one, other):
    def lit(pair):
        return is_lit(one, pair[0]) or is_lit(other, pair[1])

    return lay_out((0, 0), exits_in_pairs(one, other), lit, None)


def backwards_within(house, most):
    # None where there would be more rooms than `most`; if that is None, there may be any number.
    # A place is a text with a sign for each room: `+` where the walk so far, told from its last turn to its first,
    # leads from that room to a lit one. So one turn more goes ahead of all the others.
    def exits(here):
        return ["".join([here[room[side]] for room in house]) for side in (0, 1)]

    def lit(here):
        return here[0] == "+"

    return lay_out("".join(["+" if room[2] else "-" for room in house]), exits, lit, most)


def behind(one, other):
    return settled(behind_forks(one, other), None, None)


def again(house):
    return settled(again_forks(house), None, None)


def backwards(house):
    return backwards_within(house, None)
