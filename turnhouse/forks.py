"""Houses with forks, in which a walk may lead to several rooms at once.

`exits` holds two lists, for the left turn and for the right one: of each room the lot of rooms that the turn leads to.
`first` is the lot of rooms in which a walk may begin, `lit` that of the lit rooms. A walk passes where one of the rooms
that it leads to is lit.
"""

from turnhouse.lots import joined, lot_of, rooms_in
from turnhouse.rooms import is_lit


class Forks:
    def __init__(self, lefts, rights, first, lit):
        self.exits = (lefts, rights)
        self.first = first
        self.lit = lit

    def size(self):
        return len(self.exits[0])

    def led(self, lot, side):
        return joined(self.exits[side], lot)

    def lets_empty(self):
        return self.first & self.lit != 0


def forks_of_house(house):
    lefts = [1 << room[0] for room in house]
    rights = [1 << room[1] for room in house]
    return Forks(lefts, rights, 1, lot_of([room for room in range(len(house)) if is_lit(house, room)]))


def entering(lots, lit, begun):
    # Where a walk comes to a lit room, it may have come to its end, and the next one begins.
    return [lot | begun if lot & lit != 0 else lot for lot in lots]


def moved(lots, places):
    return [lot << places for lot in lots]


def behind_forks(one, other):
    size = one.size()
    begun = other.first << size
    lefts = entering(one.exits[0], one.lit, begun) + moved(other.exits[0], size)
    rights = entering(one.exits[1], one.lit, begun) + moved(other.exits[1], size)
    first = one.first | begun if one.lets_empty() else one.first
    lit = other.lit << size
    return Forks(lefts, rights, first, lit | one.lit if other.lets_empty() else lit)


def again_forks(part):
    lefts = entering(part.exits[0], part.lit, part.first)
    rights = entering(part.exits[1], part.lit, part.first)
    if part.lets_empty():
        return Forks(lefts, rights, part.first, part.lit)
    # One room more leads on as the first ones do, but is lit for the empty walk's sake.
    more = 1 << part.size()
    lefts.append(joined(lefts, part.first))
    rights.append(joined(rights, part.first))
    return Forks(lefts, rights, more, part.lit | more)


def either_forks(one, other):
    size = one.size()
    lefts = one.exits[0] + moved(other.exits[0], size)
    rights = one.exits[1] + moved(other.exits[1], size)
    return Forks(lefts, rights, one.first | other.first << size, one.lit | other.lit << size)


class Pairing:
    # Rooms are pairs of rooms, one of each house, as far as they are come to.

    def __init__(self, one, other):
        self.one = one
        self.other = other
        self.numbers = {}
        self.pairs = []
        self.exits = ([], [])
        self.first = self.paired(one.first, other.first)

    def paired(self, lot, other_lot):
        numbers = []
        for room in rooms_in(lot):
            for other_room in rooms_in(other_lot):
                numbers.append(self.number((room, other_room)))
        return lot_of(numbers)

    def number(self, pair):
        if pair not in self.numbers:
            self.numbers[pair] = len(self.pairs)
            self.pairs.append(pair)
        return self.numbers[pair]

    def look_on(self):
        pair = self.pairs[len(self.exits[0])]
        for side in (0, 1):
            ahead = self.paired(self.one.exits[side][pair[0]], self.other.exits[side][pair[1]])
            self.exits[side].append(ahead)

    def lit_pairs(self):
        return lot_of([number for number in range(len(self.pairs)) if self.is_lit_pair(self.pairs[number])])

    def is_lit_pair(self, pair):
        return self.one.lit >> pair[0] & 1 == 1 and self.other.lit >> pair[1] & 1 == 1


def both_forks(one, other, most):
    # None where there would be more rooms than `most`.
    pairing = Pairing(one, other)
    while len(pairing.exits[0]) < len(pairing.pairs):
        if len(pairing.pairs) > most:
            return None
        pairing.look_on()
    return Forks(pairing.exits[0], pairing.exits[1], pairing.first, pairing.lit_pairs())


def turned_round(forks):
    # The same walks told from the last turn to the first: every exit leads back to where it came from.
    exits = ([0] * forks.size(), [0] * forks.size())
    for side in (0, 1):
        for room in range(forks.size()):
            for there in rooms_in(forks.exits[side][room]):
                exits[side][there] |= 1 << room
    return Forks(exits[0], exits[1], forks.lit, forks.first)
