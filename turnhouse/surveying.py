"""The house without forks of a house with forks: its rooms are lots of rooms in which one may be at once."""


class Survey:
    # The lots that are come to, numbered in the order of point 6. It can be left off and gone on with later.

    def __init__(self, forks):
        self.forks = forks
        self.numbers = {forks.first: 0}
        self.lots = [forks.first]
        self.rooms = []

    def is_whole(self):
        return len(self.rooms) == len(self.lots)

    def number(self, lot):
        if lot not in self.numbers:
            self.numbers[lot] = len(self.lots)
            self.lots.append(lot)
        return self.numbers[lot]

    def look_on(self):
        lot = self.lots[len(self.rooms)]
        left = self.number(self.forks.led(lot, 0))
        right = self.number(self.forks.led(lot, 1))
        self.rooms.append((left, right, lot & self.forks.lit != 0))

    def go_on(self, most):
        # Until all is seen, or more lots than `most` are met.
        while len(self.lots) <= most and not self.is_whole():
            self.look_on()


def settled(forks):
    survey = Survey(forks)
    while not survey.is_whole():
        survey.look_on()
    return survey.rooms
