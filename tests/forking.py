"""Houses with forks to test with, and what passes in them, worked out without the program."""

import itertools
import random

from tests.houses import DARK_ROOM, EXAMPLE, LIT_ROOM, all_houses, all_walks, corridor, mixed, ring
from turnhouse.forks import Forks, again_forks, behind_forks, forks_of_house


def houses():
    return all_houses(1) + all_houses(2)[::5] + [EXAMPLE, ring(4, {1}), corridor(5), mixed(4, 1), mixed(5, 3)]


def rooms_of(lot):
    return {room for room in range(lot.bit_length()) if lot >> room & 1}


def passes_from(forks, here, walk):
    """Whether a walk may lead from one of these rooms to a lit one."""
    for turn in walk:
        here = {there for room in here for there in rooms_of(forks.exits["lr".index(turn)][room])}
    return bool(here & rooms_of(forks.lit))


def walks_in(forks, most):
    """The set of the walks of at most `most` turns that pass in the house with forks."""
    first = rooms_of(forks.first)
    return {walk for walk in all_walks(most) if passes_from(forks, first, walk)}


def mixed_forks(size, seed):
    """A house with forks without any plain order, the same each time; some rooms lead nowhere by some turn."""
    chance = random.Random(seed * 1009 + size)

    def some(share):
        return sum(1 << room for room in range(size) if chance.random() < share)

    lefts = [some(1.5 / size) for _ in range(size)]
    rights = [some(1.5 / size) for _ in range(size)]
    return Forks(lefts, rights, some(0.4) | 1, some(0.3))


def many_forks():
    plain = [forks_of_house(house) for house in houses()]
    made = [behind_forks(one, other) for one, other in itertools.product(plain[::3], repeat=2)]
    made += [again_forks(part) for part in plain]
    none = [Forks([], [], 0, 0), Forks([0], [0], 1, 0), Forks([1], [1], 0, 1)]
    return plain + made + none + [mixed_forks(size, seed) for size in range(1, 10) for seed in range(8)]


__all__ = ["DARK_ROOM", "LIT_ROOM", "houses", "many_forks", "mixed_forks", "passes_from", "rooms_of", "walks_in"]
