"""Which places let no other walks pass than a room of a guessed house does.

Places are the rooms of the house with forks and, numbered behind these, the rooms of the guess.
"""

from turnhouse.lots import joined, lot_of


class Outside:
    # For each room of the guess the lot of places from which some walk passes that doesn't pass from the room. They are
    # found backwards: first those where this is the empty walk, then those from which a turn leads to such a place.

    def __init__(self, guess):
        self.offset = guess.forks.size()
        self.leading_by = (self.rooms_leading(guess, 0), self.rooms_leading(guess, 1))
        self.back_by = (self.places_leading(guess, 0), self.places_leading(guess, 1))
        self.found = [0] * len(guess.lots)
        self.fresh = {}
        self.find_first(guess)
        while len(self.fresh) > 0:
            self.find_more()

    def rooms_leading(self, guess, side):
        leading = [[] for exits in guess.exits]
        for room in range(len(guess.exits)):
            leading[guess.exits[room][side]].append(room)
        return leading

    def places_leading(self, guess, side):
        rooms = [lot_of(leading) << self.offset for leading in self.rooms_leading(guess, side)]
        return guess.backwards.exits[side] + rooms

    def find_first(self, guess):
        lit = [room for room in range(len(guess.lots)) if guess.is_lit_guess(room)]
        places = guess.forks.lit | lot_of(lit) << self.offset
        for room in range(len(guess.lots)):
            if not guess.is_lit_guess(room):
                self.take_in(room, places)

    def take_in(self, room, places):
        more = places & ~self.found[room]
        if more != 0:
            self.found[room] |= more
            self.fresh[room] = self.fresh.get(room, 0) | more

    def find_more(self):
        fresh = self.fresh
        self.fresh = {}
        for room in fresh:
            for side in (0, 1):
                places = joined(self.back_by[side], fresh[room])
                for before in self.leading_by[side][room]:
                    self.take_in(before, places)


def lots_within(guess):
    # For each place a lot of places that let no other walks pass: for a room of the guess all there are, for a room of
    # the house with forks itself alone.
    rooms = [1 << room for room in range(guess.forks.size())]
    every = (1 << (guess.forks.size() + len(guess.lots))) - 1
    return rooms + [every & ~found for found in Outside(guess).found]
