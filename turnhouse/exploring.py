"""Places that are come to from a first one: walks to them, and the house that they make.

A place is anything that can be a key of a dict: the number of a room, or a tuple of such numbers. Its exits are two
places, the left one first.
"""


def explore(start, exits, wanted):
    # For each place that is come to: the place ahead of it and the turn from there, None for the first one.
    # Whole walks are not kept, since with many places they would take far more room than the places do.
    # The places come in the order in which they are first met, so no walk is longer than it must be.
    # Beside them stands the first place that is wanted, None if there is none; nothing is looked for behind it.
    steps = {start: None}
    met = [start]
    looked_at = 0
    while looked_at < len(met):
        here = met[looked_at]
        if wanted(here):
            return (steps, here)
        looked_at += 1
        for turn, there in zip("lr", exits(here)):
            if there not in steps:
                steps[there] = (here, turn)
                met.append(there)
    return (steps, None)


def walk_to(steps, place):
    turns = []
    step = steps[place]
    while step is not None:
        turns.append(step[1])
        step = steps[step[0]]
    return "".join(reversed(turns))


def first_walk(start, exits, wanted):
    found = explore(start, exits, wanted)
    if found[1] is None:
        return None
    return walk_to(found[0], found[1])


def lay_out(start, exits, lit):
    # The rooms are the places, numbered as they are first met, left ahead of right: the order of point 6.
    numbers = {start: 0}
    places = [start]
    rooms = []
    while len(rooms) < len(places):
        here = places[len(rooms)]
        ahead = []
        for there in exits(here):
            if there not in numbers:
                numbers[there] = len(places)
                places.append(there)
            ahead.append(numbers[there])
        rooms.append((ahead[0], ahead[1], lit(here)))
    return rooms
