"""The house without forks of a house with forks, guessed.

A probe is the lot of rooms from which some one walk passes. Two lots of rooms are taken for one room of the guess where
each probe meets both or neither of them. So two rooms of the guess are always told apart by some walk; but that lots
which are taken for one room have the same walks is only guessed, and more probes may show that they don't.
"""

from turnhouse.forks import turned_round
from turnhouse.lots import joined, rooms_in


class Guess:
    # `answers` of a lot are the numbers of the probes that meet it, as one whole number with a bit for each.

    def __init__(self, forks, probes):
        self.forks = forks
        self.backwards = turned_round(forks)
        self.probes = []
        self.known = {}
        self.answers_of_room = [0] * forks.size()
        self.lots = []
        self.answers = []
        self.ahead = []
        self.exits = []
        self.numbers = {}
        self.note_probe(forks.lit)
        for probe in probes:
            self.note_probe(probe)
        self.number(forks.first)
        self.look_on()

    def note_probe(self, probe):
        if probe not in self.known:
            bit = 1 << len(self.probes)
            self.known[probe] = True
            self.probes.append(probe)
            for room in rooms_in(probe):
                self.answers_of_room[room] |= bit

    def number(self, lot):
        answers = joined(self.answers_of_room, lot)
        if answers not in self.numbers:
            self.numbers[answers] = len(self.lots)
            self.lots.append(lot)
            self.answers.append(answers)
        return self.numbers[answers]

    def look_on(self):
        while len(self.exits) < len(self.lots):
            lot = self.lots[len(self.exits)]
            ahead = (self.forks.led(lot, 0), self.forks.led(lot, 1))
            self.ahead.append(ahead)
            self.exits.append([self.number(ahead[0]), self.number(ahead[1])])

    def is_lit_guess(self, room):
        return self.lots[room] & self.forks.lit != 0

    def learn_probe(self, probe):
        # Where a probe parts rooms, that of the same walk with one turn ahead of it often does so too.
        self.part_by(probe)
        waiting = self.probes_ahead(probe)
        while len(waiting) > 0:
            ahead = waiting.pop()
            if ahead not in self.known and self.parts_some(ahead):
                self.part_by(ahead)
                waiting.extend(self.probes_ahead(ahead))

    def probes_ahead(self, probe):
        return [self.backwards.led(probe, 0), self.backwards.led(probe, 1)]

    def parts_some(self, probe):
        for room in range(len(self.exits)):
            if self.parts(room, 0, probe) or self.parts(room, 1, probe):
                return True
        return False

    def part_by(self, probe):
        # What was taken for one room is parted where the probe meets the one lot and not the other.
        if probe in self.known:
            return
        bit = 1 << len(self.probes)
        self.note_probe(probe)
        for room in range(len(self.lots)):
            if self.lots[room] & probe != 0:
                self.answers[room] |= bit
        self.numbers = dict([(self.answers[room], room) for room in range(len(self.lots))])
        for room in range(len(self.exits)):
            for side in (0, 1):
                if self.parts(room, side, probe):
                    self.exits[room][side] = self.number(self.ahead[room][side])
        self.look_on()

    def parts(self, room, side, probe):
        taken_for = self.lots[self.exits[room][side]]
        return (self.ahead[room][side] & probe != 0) != (taken_for & probe != 0)

    def probes_along(self, walk):
        # For each place in the walk the probe of the walk's rest from there.
        probes = [self.forks.lit]
        for side in reversed(walk):
            probes.append(self.backwards.led(probes[-1], side))
        return list(reversed(probes))

    def parting_probe(self, walk, probes):
        room = 0
        for place in range(len(walk)):
            if self.parts(room, walk[place], probes[place + 1]):
                return probes[place + 1]
            room = self.exits[room][walk[place]]
        return None

    def learn_walk(self, walk):
        # Until the guess lets the walk pass just where the house with forks does.
        probes = self.probes_along(walk)
        probe = self.parting_probe(walk, probes)
        while probe is not None:
            self.learn_probe(probe)
            probe = self.parting_probe(walk, probes)

    def as_house(self):
        return [(self.exits[room][0], self.exits[room][1], self.is_lit_guess(room)) for room in range(len(self.lots))]


class Excess:
    # Looks for a walk, as a list of sides, that the house with forks lets pass and the guess doesn't.

    def __init__(self, guess):
        self.guess = guess
        # For each room of the guess the lot of rooms that some walk to it leads to.
        self.met = [0] * len(guess.lots)
        # The room of the guess, the rooms met there anew, the step ahead of this one, and the side taken from there.
        self.steps = []
        self.meet(0, guess.forks.first, None, None)

    def meet(self, room, lot, before, side):
        fresh = lot & ~self.met[room]
        if fresh != 0:
            self.met[room] |= fresh
            self.steps.append((room, fresh, before, side))

    def walk_to(self, step):
        walk = []
        while step[2] is not None:
            walk.append(step[3])
            step = self.steps[step[2]]
        return list(reversed(walk))

    def walk(self):
        number = 0
        while number < len(self.steps):
            step = self.steps[number]
            if step[1] & self.guess.forks.lit != 0 and not self.guess.is_lit_guess(step[0]):
                return self.walk_to(step)
            for side in (0, 1):
                self.meet(self.guess.exits[step[0]][side], self.guess.forks.led(step[1], side), number, side)
            number += 1
        return None


def learn_excess(guess):
    # Until every walk that the house with forks lets pass, the guess lets pass too.
    walk = Excess(guess).walk()
    while walk is not None:
        guess.learn_walk(walk)
        walk = Excess(guess).walk()
