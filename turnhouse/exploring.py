"""Which places are come to from a first one, and by which walks.

A place is anything that can be a key of a dict: the number of a room, or a tuple of such numbers.
"""


def explore(start, exits):
    # For each place that is come to: the place ahead of it and the turn from there, None for the first one.
    # Whole walks are not kept, since with many places they would take far more room than the places do.
    # The keys come in the order in which the places are first met, so no walk is longer than it must be.
    steps = {start: None}
    met = [start]
    looked_at = 0
    while looked_at < len(met):
        here = met[looked_at]
        looked_at += 1
        for turn, there in zip("lr", exits(here)):
            if there not in steps:
                steps[there] = (here, turn)
                met.append(there)
    return steps


def walk_to(steps, place):
    turns = []
    step = steps[place]
    while step is not None:
        turns.append(step[1])
        step = steps[step[0]]
    return "".join(reversed(turns))
