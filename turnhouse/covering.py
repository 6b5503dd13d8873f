"""Which rooms of a house with forks take the place of which others.

A room stands in for another where it is lit if that one is, and where by either turn, for each room that the other
leads to, it leads to one that stands in for that. Then every walk that passes from the other passes from it too.
"""


def rooms_leading_by(rooms, side):
    leading = [[] for room in rooms]
    for number in range(len(rooms)):
        for there in rooms[number][side]:
            leading[there].append(number)
    return leading


class StandIns:
    # Each room is taken to stand in for each other one until this is seen to fail; one failure may bring others.

    def __init__(self, rooms):
        self.rooms = rooms
        self.leading = (rooms_leading_by(rooms, 0), rooms_leading_by(rooms, 1))
        self.failed = [[False] * len(rooms) for room in rooms]
        self.failures = []
        self.fail_dark_for_lit()
        while len(self.failures) > 0:
            failure = self.failures.pop()
            self.fail_ahead_of(failure[0], failure[1], 0)
            self.fail_ahead_of(failure[0], failure[1], 1)

    def fail(self, room, other):
        if not self.failed[other][room]:
            self.failed[other][room] = True
            self.failures.append((room, other))

    def fail_dark_for_lit(self):
        dark = [room for room in range(len(self.rooms)) if not self.rooms[room][2]]
        for other in range(len(self.rooms)):
            if self.rooms[other][2]:
                for room in dark:
                    self.fail(room, other)

    def fail_ahead_of(self, room, other, side):
        for before in self.leading[side][room]:
            if all([self.failed[other][there] for there in self.rooms[before][side]]):
                for before_other in self.leading[side][other]:
                    self.fail(before, before_other)

    def takes_place(self, room, other):
        # Of two that stand in for one another only the one with the lower number does, lest both be left out.
        if room == other or self.failed[other][room]:
            return False
        return self.failed[room][other] or room < other


def covers_of(rooms):
    # For each room those that take its place, as a dict of True.
    found = StandIns(rooms)
    covers = []
    for other in range(len(rooms)):
        covers.append(dict([(room, True) for room in range(len(rooms)) if found.takes_place(room, other)]))
    return covers
