"""Least houses of one house behind the other and of a house again, where these are large.

Made plainly, such a house may have very many rooms, though its least house has few. What helps is to leave out rooms
whose place others take; or to make it of houses turned backwards, and to turn it round at the end.
"""

from turnhouse.building import backwards_within
from turnhouse.covering import covers_of
from turnhouse.forks import again_forks, behind_forks, settled
from turnhouse.least import least

FIRST_MOST = 2000

# With more rooms it takes too long to find out which of them take the place of which others.
MOST_COMPARED = 1200


def behind_forks_backwards(one, other, most):
    first = backwards_within(other, most)
    second = backwards_within(one, most)
    if first is None or second is None:
        return None
    return behind_forks(first, second)


def again_forks_backwards(house, most):
    part = backwards_within(house, most)
    if part is None:
        return None
    return again_forks(part)


def covers_if_few(rooms):
    return covers_of(rooms) if len(rooms) <= MOST_COMPARED else None


def turned_round(forks, most):
    if forks is None:
        return None
    house = settled(forks, covers_if_few(forks.rooms), most)
    if house is None:
        return None
    return backwards_within(least(house), most)


def settled_either_way(forks, forks_backwards):
    # Which way is the short one isn't known beforehand, so both are tried with more and more rooms.
    covers = covers_if_few(forks.rooms)
    most = FIRST_MOST
    house = None
    while house is None:
        house = settled(forks, covers, most)
        if house is None:
            house = turned_round(forks_backwards(most), most)
        most *= 4
    return house


def least_settled(forks, forks_backwards):
    # The plain way goes first: mostly it is short, and to compare all rooms would take longer.
    house = settled(forks, None, FIRST_MOST)
    if house is None:
        house = settled_either_way(forks, forks_backwards)
    return least(house)


def least_behind(one, other):
    return least_settled(behind_forks(one, other), lambda most: behind_forks_backwards(one, other, most))


def least_again(house):
    return least_settled(again_forks(house), lambda most: again_forks_backwards(house, most))
