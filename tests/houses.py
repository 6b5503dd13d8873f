"""Houses and plans to test with, and answers worked out straight from the document, without the program."""

import contextlib
import copy
import functools
import itertools
import signal
import unittest

MOST_ROOMS = 250

DARK_ROOM = [(0, 0, False)]
LIT_ROOM = [(0, 0, True)]

EXAMPLE = [(1, 2, True), (2, 1, False), (1, 1, False), (0, 0, True)]

# Signs from the blank to `~` that are no turns; `%` is never handed in.
OTHER_SIGNS = [chr(code) for code in range(ord(" "), ord("~") + 1) if chr(code) not in "lr%"]


def ring(size, lit):
    """Left goes to the next number, right to the one below, all round; the rooms in `lit` are lit."""
    return [((room + 1) % size, (room - 1) % size, room in lit) for room in range(size)]


def corridor(size):
    """Only the longest row of lefts comes to the last room, the one lit; a right goes back to room nought."""
    return [(min(room + 1, size - 1), 0, room == size - 1) for room in range(size)]


def half_shut(size):
    """For an even size: even rooms lead to even rooms alone, and only odd rooms are lit."""
    return [((room + 2) % size, room, room % 2 == 1) for room in range(size)]


def backward_corridor(size):
    """Left goes from room nought to the last room, and from each other one to the number below; right stays."""
    return [((room - 1) % size, room, room == 1) for room in range(size)]


def mixed(size, seed):
    """A house without any plain order, the same each time."""
    state = seed * 7919 + size
    numbers = []
    for _ in range(3 * size):
        state = (state * 6364136223846793005 + 1442695040888963407) % 2 ** 64
        numbers.append(state >> 33)
    return [(numbers[3 * room] % size, numbers[3 * room + 1] % size, numbers[3 * room + 2] % 3 == 0)
            for room in range(size)]


def with_copies(house, times):
    """The house with each of its rooms there several times; the exits lead to now this, now that copy."""
    size = len(house)
    return [(left + size * ((copy_number + room) % times), right + size * ((copy_number * 2 + 1) % times), lit)
            for copy_number in range(times) for room, (left, right, lit) in enumerate(house)]


def renumbered(house, step):
    """The house with its rooms in another order, but for room nought; each is there as often as before."""
    others = sorted(range(1, len(house)), key=lambda room: (room * step % 1009, room))
    order = [0] + others
    place = {room: number for number, room in enumerate(order)}
    return [(place[house[room][0]], place[house[room][1]], house[room][2]) for room in order]


def with_rooms_not_come_to(house):
    """The house with some rooms behind the others that no exit of theirs leads to."""
    size = len(house)
    return house + [(size + 1, 0, True), (size, size - 1, False), (size + 2, size, True)]


def all_houses(size):
    rooms = list(itertools.product(range(size), range(size), (False, True)))
    return [list(house) for house in itertools.product(rooms, repeat=size)]


def large_houses():
    return [
        ring(MOST_ROOMS, {0}),
        ring(MOST_ROOMS, {125}),
        ring(MOST_ROOMS, set()),
        corridor(MOST_ROOMS),
        half_shut(MOST_ROOMS),
        backward_corridor(MOST_ROOMS),
        mixed(MOST_ROOMS, 1),
        mixed(MOST_ROOMS, 2),
        corridor(MOST_ROOMS + 10),
    ]


def many_houses():
    small = all_houses(1) + all_houses(2)
    middling = [mixed(size, seed) for size in range(3, 15) for seed in range(6)]
    return small + [EXAMPLE] + middling + large_houses()


def follow(house, room, walk):
    for turn in walk:
        left, right, _ = house[room]
        room = {"l": left, "r": right}[turn]
    return room


def rooms_come_to(house):
    come_to = {0}
    while True:
        more = come_to | {there for room in come_to for there in house[room][:2]}
        if more == come_to:
            return come_to
        come_to = more


def all_walks(most):
    """Every walk of at most `most` turns, in the order of point 9."""
    return ["".join(turns) for length in range(most + 1) for turns in itertools.product("lr", repeat=length)]


def numbers_of_no_room(house):
    size = len(house)
    return [-1, -2, -size, -size - 1, size, size + 1, 2 * size, 10 ** 6, -10 ** 6, 2 ** 64, 10 ** 5000, -10 ** 5000]


def passes(house, walk):
    return house[follow(house, 0, walk)][2]


def walks_of(house, most):
    """The set of the walks of at most `most` turns that the house lets pass."""
    return {walk for walk in all_walks(most) if passes(house, walk)}


def kinds_of_rooms(house):
    """A number for each room: two rooms have the same one just where no walk tells them apart.

    Round by round, walks of one turn more are taken into account; when these part no more rooms, longer ones don't
    either.
    """
    kinds = [int(lit) for _, _, lit in house]
    while True:
        marks = [(kinds[room], kinds[left], kinds[right]) for room, (left, right, _) in enumerate(house)]
        numbers = {mark: number for number, mark in enumerate(sorted(set(marks)))}
        if len(numbers) == len(set(kinds)):
            return kinds
        kinds = [numbers[mark] for mark in marks]


def side_by_side(one, other):
    """One house with the rooms of both, those of the other behind."""
    size = len(one)
    return one + [(left + size, right + size, lit) for left, right, lit in other]


def same_walks(one, other):
    kinds = kinds_of_rooms(side_by_side(one, other))
    return kinds[0] == kinds[len(one)]


def order_of_meeting(house):
    """The numbers of the rooms that are come to, in the order that point 6 tells."""
    met = [0]
    for room in met:
        for there in house[room][:2]:
            if there not in met:
                met.append(there)
    return met


def cut_in_two(firsts, seconds, most):
    return {first + second for first in firsts for second in seconds if len(first + second) <= most}


def cut_in_many(parts, most):
    walks = {""}
    while True:
        more = walks | cut_in_two(walks, parts, most)
        if more == walks:
            return walks
        walks = more


def can_be_cut(walk, first, second):
    return any(first(walk[:cut]) and second(walk[cut:]) for cut in range(len(walk) + 1))


def can_be_cut_in_many(walk, part):
    ends = {0}
    for end in range(1, len(walk) + 1):
        if any(begin in ends and part(walk[begin:end]) for begin in range(end)):
            ends.add(end)
    return len(walk) in ends


NONE = ("none",)
STILL = ("still",)
LEFT = ("turn", "l")
RIGHT = ("turn", "r")
ANY_TURN = ("either", LEFT, RIGHT)
ALL = ("not", NONE)


@contextlib.contextmanager
def seconds_at_most(seconds):
    """What is done within fails if it takes longer, so that the tests come to an end."""
    def late(number, frame):
        raise AssertionError(f"no answer within {seconds} seconds")

    before = signal.signal(signal.SIGALRM, late)
    signal.alarm(seconds)
    try:
        yield
    finally:
        signal.alarm(0)
        signal.signal(signal.SIGALRM, before)


def words_in(plan):
    """Each plan in it is one word more; the sign of a turn is none by itself."""
    return 1 + sum(words_in(part) for part in plan[1:] if isinstance(part, tuple))


def in_a_row(*plans):
    row = plans[-1]
    for plan in reversed(plans[:-1]):
        row = ("then", plan, row)
    return row


def repeated(plan, times):
    return in_a_row(*[plan] * times)


def wrapped(words, times, plan):
    """The plan within `times` ones of the words, which come in turn."""
    for number in range(times):
        plan = (words[number % len(words)], plan)
    return plan


@functools.lru_cache(maxsize=None)
def walks_that_fit(plan, most):
    """The set of the walks of at most `most` turns that fit the plan."""
    word = plan[0]
    if word == "none":
        return frozenset()
    if word == "still":
        return frozenset([""])
    if word == "turn":
        return frozenset(walk for walk in [plan[1]] if len(walk) <= most)
    parts = [walks_that_fit(part, most) for part in plan[1:]]
    if word == "not":
        return frozenset(all_walks(most)) - parts[0]
    if word == "both":
        return parts[0] & parts[1]
    if word == "either":
        return parts[0] | parts[1]
    if word == "then":
        return frozenset(cut_in_two(parts[0], parts[1], most))
    return frozenset(cut_in_many(parts[0], most))


def mixed_plan(words, chance):
    """A plan of at most so many words, without any plain order; `chance` is a random.Random."""
    if words < 2:
        return chance.choice([NONE, STILL, STILL])
    if words < 4 or chance.random() < 0.1:
        return chance.choice([LEFT, RIGHT])
    if chance.random() < 0.3:
        return (chance.choice(["not", "many"]), mixed_plan(words - 1, chance))
    share = chance.randint(1, words - 2)
    word = chance.choice(["both", "either", "then", "then", "then"])
    return (word, mixed_plan(share, chance), mixed_plan(words - 1 - share, chance))


class HouseCase(unittest.TestCase):
    def asked(self, function, *given):
        """The function's answer, once it is sure that the call left all that was handed in as it was."""
        before = copy.deepcopy(given)
        answer = function(*given)
        self.assertEqual(given, before)
        return answer

    def refused(self, error, function, *given):
        """Sure that the function refuses with just this error, and leaves all that was handed in as it was."""
        before = copy.deepcopy(given)
        with self.assertRaises(error) as caught:
            function(*given)
        self.assertIs(type(caught.exception), error)
        self.assertEqual(given, before)

    def built(self, function, *given):
        """The house that the function gives back, once it is sure that it is one, and not a list handed in."""
        house = self.asked(function, *given)
        self.assertIs(type(house), list)
        self.assertGreater(len(house), 0)
        self.assertFalse(any(house is thing for thing in given))
        for room in house:
            self.assertIs(type(room), tuple)
            self.assertEqual([type(value) for value in room], [int, int, bool])
            self.assertTrue(0 <= room[0] < len(house) and 0 <= room[1] < len(house))
        return house
