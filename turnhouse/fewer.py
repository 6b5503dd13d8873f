"""Houses with forks made smaller, with the same walks."""

from turnhouse.forks import Forks, turned_round
from turnhouse.groups import Groups
from turnhouse.lots import renamed, rooms_in


class ForkGroups(Groups):
    # Rooms are in one group only where either turn leads from them to rooms of the same groups. Then the same walks
    # pass from them, but rooms from which the same walks pass may still be in two groups.

    def __init__(self, forks):
        self.forks = forks
        self.sort_out([forks.lit >> room & 1 for room in range(forks.size())])

    def rooms_ahead(self, room):
        return rooms_in(self.forks.exits[0][room] | self.forks.exits[1][room])

    def groups_ahead(self, room):
        return (renamed(self.forks.exits[0][room], self.group_of), renamed(self.forks.exits[1][room], self.group_of))


def come_to(forks):
    met = forks.first
    fresh = met
    while fresh != 0:
        fresh = (forks.led(fresh, 0) | forks.led(fresh, 1)) & ~met
        met |= fresh
    return met


def rebuilt(forks, kept, names):
    # The house of the rooms in `kept`, in this order; `names` gives each old room its new number, or None.
    lefts = [renamed(forks.exits[0][room], names) for room in kept]
    rights = [renamed(forks.exits[1][room], names) for room in kept]
    return Forks(lefts, rights, renamed(forks.first, names), renamed(forks.lit, names))


def without_useless(forks):
    # Rooms that aren't come to and rooms from which no walk passes are left out.
    kept = rooms_in(come_to(forks) & come_to(turned_round(forks)))
    names = [None] * forks.size()
    for number in range(len(kept)):
        names[kept[number]] = number
    return rebuilt(forks, kept, names)


def merged(forks):
    groups = ForkGroups(forks)
    return rebuilt(forks, [min(members) for members in groups.members if len(members) > 0], groups.group_of)


def made_fewer(forks):
    # Merged from the front, from the back, and so on, until it helps no more.
    fewer = without_useless(forks)
    before = fewer.size() + 1
    while 0 < fewer.size() < before:
        before = fewer.size()
        fewer = turned_round(merged(turned_round(merged(fewer))))
    return fewer
