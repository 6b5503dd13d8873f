"""The least house without forks of a house with forks.

Its lots of rooms, gone through plainly, may be far too many, though the least house has few rooms. Then they may still
be few when walks are told backwards; or the least house is guessed, and it is proven that the guess is right.
"""

from turnhouse.claims import Proof
from turnhouse.forks import turned_round
from turnhouse.guessing import Guess
from turnhouse.least import least
from turnhouse.surveying import Survey

FIRST_MOST = 2000

# To guess and prove takes longer than to look at some lots more, so it is begun only where these are many.
MOST_WITHOUT_PROOF = 5000

# To follow one claim takes about as long as to look at so many lots.
LOTS_TO_A_CLAIM = 2

# Lots of this many rooms take about as long to look at as empty ones.
ROOMS_SOON_SEEN = 64

# With more probes the guess is hardly better, but each look at them takes longer.
MOST_PROBES = 1000


class Settling:
    def __init__(self, forks):
        self.forks = forks
        self.onwards = Survey(forks)
        self.back = Survey(turned_round(forks))
        self.proof = None

    def fair_share(self, most):
        # Beyond the first ones, fewer lots where the house has many rooms, since there each takes longer to look at.
        return FIRST_MOST + (most - FIRST_MOST) * ROOMS_SOON_SEEN // (ROOMS_SOON_SEEN + self.forks.size())

    def surveyed_within(self, most):
        # A house with the same walks, not always the least; None where it takes more lots than `most`.
        self.onwards.go_on(most)
        if self.onwards.is_whole():
            return self.onwards.rooms
        self.back.go_on(most)
        if self.back.is_whole():
            # The lots of the walks told backwards are all the probes there are, so this is no mere guess.
            return Guess(self.forks, self.back.lots).as_house()
        return None

    def proven_within(self, most):
        # The same, but None where it takes to follow more claims than `most` beside those followed before.
        if self.proof is None:
            self.proof = Proof(self.forks, self.back.lots[:MOST_PROBES])
        self.proof.go_on(most)
        if self.proof.is_proven:
            return self.proof.guess.as_house()
        return None


def settled_within(settlings, most):
    for settling in settlings:
        house = settling.surveyed_within(settling.fair_share(most))
        if house is not None:
            return house
    if most > MOST_WITHOUT_PROOF:
        return settlings[0].proven_within(most // LOTS_TO_A_CLAIM)
    return None


def least_settled(choices):
    # The choices have the same walks; the first one has the fewest rooms, so a proof is tried on it alone. Which way is
    # the short one isn't known beforehand, so all are tried with more and more lots.
    settlings = [Settling(forks) for forks in choices]
    most = FIRST_MOST
    house = None
    while house is None:
        house = settled_within(settlings, most)
        most *= 2
    return least(house)
