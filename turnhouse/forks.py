"""Houses with forks, in which a walk may lead to several rooms at once; and the house without forks of each.

A room of such a house is a tuple `(lefts, rights, lit)`: the rooms to which its exits lead, as tuples of numbers. A
walk passes where one of the rooms that it leads to is lit.
"""

from turnhouse.exploring import lay_out
from turnhouse.rooms import is_lit


class Forks:
    def __init__(self, rooms, first):
        self.rooms = rooms
        self.first = first


def forked_at_lit(house, fork):
    # Where a walk comes to a lit room of the house, it may have come to its end, and the next one begins in `fork`.
    def ahead(room):
        return (room, fork) if is_lit(house, room) else (room,)

    return [(ahead(left), ahead(right), lit) for left, right, lit in house]


def behind_forks(one, other):
    size = len(one)
    may_end = is_lit(other, 0)
    first = [(lefts, rights, lit and may_end) for lefts, rights, lit in forked_at_lit(one, size)]
    second = [((left + size,), (right + size,), lit) for left, right, lit in other]
    return Forks(first + second, (0, size) if is_lit(one, 0) else (0,))


def again_forks(house):
    # One room more leads on as room nought does, but is lit for the empty walk's sake.
    size = len(house)
    rooms = forked_at_lit(house, size)
    return Forks(rooms + [(rooms[0][0], rooms[0][1], True)], (size,))


def covered_left_out(rooms, covers):
    return [room for room in rooms if not any([other in covers[room] for other in rooms])]


def settled(forks, covers, most):
    # A room of the house is a lot of rooms in which one may be at once. Where `covers` isn't None, it tells for each
    # room which others take its place: beside one of these it is left out of the lot.
    def lot(rooms):
        once = sorted(set(rooms))
        if covers is None:
            return tuple(once)
        return tuple(covered_left_out(once, covers))

    def ahead(here, side):
        rooms = []
        for room in here:
            rooms.extend(forks.rooms[room][side])
        return lot(rooms)

    def exits(here):
        return (ahead(here, 0), ahead(here, 1))

    def lit(here):
        return any([forks.rooms[room][2] for room in here])

    return lay_out(lot(forks.first), exits, lit, most)
