"""Houses to test with, and answers worked out straight from the document, without the program."""

import copy
import itertools
import unittest

MOST_ROOMS = 250

DARK_ROOM = [(0, 0, False)]
LIT_ROOM = [(0, 0, True)]

EXAMPLE = [(1, 2, True), (2, 1, False), (1, 1, False), (0, 0, True)]

# Signs from the blank to `~` that are no turns; `%` is never handed in.
OTHER_SIGNS = [chr(code) for code in range(ord(" "), ord("~") + 1) if chr(code) not in "lr%"]


def ring(size, lit):
    """Left goes to the next number, right to the one below, all round; the rooms in `lit` are lit."""
    return [((room + 1) % size, (room - 1) % size, room in lit) for room in range(size)]


def corridor(size):
    """Only the longest row of lefts comes to the last room, the one lit; a right goes back to room nought."""
    return [(min(room + 1, size - 1), 0, room == size - 1) for room in range(size)]


def half_shut(size):
    """For an even size: even rooms lead to even rooms alone, and only odd rooms are lit."""
    return [((room + 2) % size, room, room % 2 == 1) for room in range(size)]


def backward_corridor(size):
    """Left goes from room nought to the last room, and from each other one to the number below; right stays."""
    return [((room - 1) % size, room, room == 1) for room in range(size)]


def mixed(size, seed):
    """A house without any plain order, the same each time."""
    state = seed * 7919 + size
    numbers = []
    for _ in range(3 * size):
        state = (state * 6364136223846793005 + 1442695040888963407) % 2 ** 64
        numbers.append(state >> 33)
    return [(numbers[3 * room] % size, numbers[3 * room + 1] % size, numbers[3 * room + 2] % 3 == 0)
            for room in range(size)]


def all_houses(size):
    rooms = list(itertools.product(range(size), range(size), (False, True)))
    return [list(house) for house in itertools.product(rooms, repeat=size)]


def large_houses():
    return [
        ring(MOST_ROOMS, {0}),
        ring(MOST_ROOMS, {125}),
        ring(MOST_ROOMS, set()),
        corridor(MOST_ROOMS),
        half_shut(MOST_ROOMS),
        backward_corridor(MOST_ROOMS),
        mixed(MOST_ROOMS, 1),
        mixed(MOST_ROOMS, 2),
        corridor(MOST_ROOMS + 10),
    ]


def many_houses():
    small = all_houses(1) + all_houses(2)
    middling = [mixed(size, seed) for size in range(3, 15) for seed in range(6)]
    return small + [EXAMPLE] + middling + large_houses()


def follow(house, room, walk):
    for turn in walk:
        left, right, _ = house[room]
        room = {"l": left, "r": right}[turn]
    return room


def rooms_come_to(house):
    come_to = {0}
    while True:
        more = come_to | {there for room in come_to for there in house[room][:2]}
        if more == come_to:
            return come_to
        come_to = more


def all_walks(most):
    """Every walk of at most `most` turns, in the order of point 9."""
    return ["".join(turns) for length in range(most + 1) for turns in itertools.product("lr", repeat=length)]


class HouseCase(unittest.TestCase):
    def asked(self, function, house, *rest):
        """The function's answer, once it is sure that the call left the house as it was."""
        before = copy.deepcopy(house)
        answer = function(house, *rest)
        self.assertEqual(house, before)
        return answer

    def refused(self, error, function, house, *rest):
        """Sure that the function refuses with just this error, and leaves the house as it was."""
        before = copy.deepcopy(house)
        with self.assertRaises(error) as caught:
            function(house, *rest)
        self.assertIs(type(caught.exception), error)
        self.assertEqual(house, before)
