"""Claims on a guessed house, and the proof of them all at once.

A claim says of a room of the guess that each walk which passes from it also passes from one of the places that cover
it. Places are the rooms of the house with forks and, numbered behind these, the rooms of the guess. A claim holds where
it holds for the empty walk, and where what it says after either turn follows from claims again. So if each of some
claims follows from claims among them, all of them hold: there can't be a shortest walk for which one fails.
"""

from turnhouse.guessing import Guess, learn_excess
from turnhouse.lots import joined, lot_of, rooms_in
from turnhouse.within import lots_within


class Claim:
    def __init__(self, room, cover, maker):
        self.room = room
        self.cover = cover
        # The claim for whose sake it was made, None for the first one.
        self.maker = maker
        # In which round it was last relied on, and how many probes it has been held against.
        self.relied = 0
        self.probed = 0
        self.failed = False


class Proof:
    # Each round begins with the claim that all walks of the guess pass in the house with forks, and follows all claims
    # that are relied on. Where one fails, this gives a new probe; the guess is mended, and another round must be gone.
    # Claims are kept from round to round. When a thorough round needs no new probe, the guess is right. To prepare one
    # takes long, so after a round with new probes others follow, with what is known from before, till one needs none.

    def __init__(self, forks, probes):
        self.guess = Guess(forks, probes)
        self.offset = forks.size()
        self.claims = []
        self.round_number = 0
        self.is_proven = False
        self.begin_round(True)

    def begin_round(self, thorough):
        if thorough:
            learn_excess(self.guess)
            self.take_stock()
            self.within = lots_within(self.guess)
        self.is_thorough = thorough
        self.weights = {}
        self.claims_on = {}
        self.claims_at = {}
        kept = [claim for claim in self.claims if self.stands(claim)]
        self.claims = []
        for claim in kept:
            self.add_claim(claim)
        self.round_number += 1
        self.is_clean = True
        self.relied_on = []
        self.followed = 0
        self.require(0, self.guess.forks.first, None)

    def take_stock(self):
        # Whatever hangs on the guess's rooms and on the probes: to be done anew when one of them is added.
        guess = self.guess
        exits = []
        for side in (0, 1):
            ahead = [1 << (self.offset + exits_of_room[side]) for exits_of_room in guess.exits]
            exits.append(guess.forks.exits[side] + ahead)
        self.exits = exits
        self.answers = guess.answers_of_room + guess.answers

    def go_on(self, most):
        # Until the proof is done, or as many claims as `most` have been followed.
        count = 0
        while not self.is_proven and count < most:
            if self.followed < len(self.relied_on):
                self.follow(self.relied_on[self.followed])
                self.followed += 1
                count += 1
            elif self.is_clean and self.is_thorough:
                self.is_proven = True
            else:
                self.begin_round(self.is_clean)

    def follow(self, claim):
        for side in (0, 1):
            if self.stands(claim):
                room = self.guess.exits[claim.room][side]
                missing = self.require(room, joined(self.exits[side], claim.cover), claim)
                if missing is not None:
                    self.fail(claim, self.guess.backwards.led(missing, side))

    def fail(self, claim, probe):
        rooms = len(self.guess.lots)
        self.learn(probe)
        # What the claim was made for needs another one now, or fails too. To see this at once spares a round, but with
        # new rooms in the guess a new round is better.
        if claim.maker is not None and len(self.guess.lots) == rooms:
            self.relied_on.append(claim.maker)

    def learn(self, probe):
        self.is_clean = False
        self.guess.learn_probe(probe)
        self.take_stock()
        for place in range(len(self.within), len(self.answers)):
            self.within.append(1 << place)

    def stands(self, claim):
        if claim.probed < len(self.guess.probes):
            claim.probed = len(self.guess.probes)
            met = joined(self.answers, claim.cover)
            claim.failed = claim.failed or self.guess.answers[claim.room] & ~met != 0
        return not claim.failed

    def require(self, room, given, maker):
        # Sees to it that claims say: what passes from the room of the guess passes from one of the places given.
        # Where a probe shows that it isn't so, the probe comes back, else None.
        if self.follows(room, given, {}):
            return None
        reasons = {}
        reached = self.all_reached(given, reasons)
        if self.follows(room, reached, reasons):
            return None
        missing = self.guess.answers[room] & ~joined(self.answers, reached)
        if missing != 0:
            return self.guess.probes[missing.bit_length() - 1]
        claim = Claim(room, self.fewest(room, reached), maker)
        self.add_claim(claim)
        self.rely_on(claim)
        self.rely_on_places(claim.cover, reached, reasons)
        return None

    def follows(self, room, reached, reasons):
        # Whether it follows at once, or from a claim on that very room.
        below = joined(self.within, reached)
        own = 1 << (self.offset + room)
        if below & own != 0:
            self.rely_on_places(own, reached, reasons)
            return True
        claim = self.claim_found(room, below)
        if claim is None:
            return False
        self.rely_on(claim)
        self.rely_on_places(claim.cover, reached, reasons)
        return True

    def add_claim(self, claim):
        self.claims.append(claim)
        self.claims_on.setdefault(claim.room, []).append(claim)
        self.claims_at.setdefault(claim.cover.bit_length(), []).append(claim)

    def claim_found(self, room, below):
        for claim in self.claims_on.get(room, []):
            if claim.cover & below == claim.cover and self.stands(claim):
                return claim
        return None

    def all_reached(self, given, reasons):
        # Beside what is given, each room of the guess of which some claim says that it is covered by what is reached.
        # `reasons` takes up these claims.
        reached = 0
        more = given
        while more != reached:
            reached = more
            for place in [-1] + rooms_in(reached):
                for claim in self.claims_at.get(place + 1, []):
                    own = 1 << (self.offset + claim.room)
                    if claim.cover & more == claim.cover and more & own == 0 and self.stands(claim):
                        more |= own
                        reasons[self.offset + claim.room] = claim
        return reached

    def fewest(self, room, reached):
        # Of the places from which less passes, as many as can be are left out, as far as the probes tell.
        places = sorted(rooms_in(reached), key=self.weight)
        rest = [0]
        for place in reversed(places):
            rest.append(rest[-1] | self.answers[place])
        kept = []
        met = 0
        for place in places:
            rest.pop()
            if self.guess.answers[room] & ~(met | rest[-1]) != 0:
                kept.append(place)
                met |= self.answers[place]
        return lot_of(kept)

    def weight(self, place):
        # How many probes meet the place; counted once a round, since it takes long and need not be exact.
        if place not in self.weights:
            self.weights[place] = len(rooms_in(self.answers[place]))
        return self.weights[place]

    def rely_on(self, claim):
        if claim.relied < self.round_number:
            claim.relied = self.round_number
            self.relied_on.append(claim)

    def rely_on_places(self, cover, reached, reasons):
        waiting = [self.holder(place, reached) for place in rooms_in(cover)]
        while len(waiting) > 0:
            place = waiting.pop()
            if place in reasons:
                claim = reasons.pop(place)
                self.rely_on(claim)
                waiting.extend(rooms_in(claim.cover))

    def holder(self, place, reached):
        # A place that is reached and from which all passes that does from the given one.
        if reached >> place & 1 == 1:
            return place
        for room in rooms_in(reached >> self.offset):
            if self.within[self.offset + room] >> place & 1 == 1:
                return self.offset + room
        return None

