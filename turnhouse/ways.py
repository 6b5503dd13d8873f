"""Walks that lead to the rooms of a house, and walks that it lets pass."""

from turnhouse.exploring import explore, first_walk, walk_to
from turnhouse.rooms import exits_of, is_lit


def exits_in(house):
    return lambda room: exits_of(house, room)


def ways_in(house):
    # No room is wanted above others, so that all are looked for.
    found = explore(0, exits_in(house), lambda room: False)
    steps = found[0]
    return [walk_to(steps, room) if room in steps else None for room in range(len(house))]


def some_walk(house):
    return first_walk(0, exits_in(house), lambda room: is_lit(house, room))


def one_turn_longer(house, reached):
    # Left goes ahead of right, so that walks that stand in the order of point 9 give longer ones in that order.
    longer = []
    for walk, room in reached:
        for turn, there in zip("lr", exits_of(house, room)):
            longer.append((walk + turn, there))
    return longer


def walks_up_to(house, most):
    passing = []
    reached = [("", 0)]
    for length in range(most + 1):
        if length > 0:
            reached = one_turn_longer(house, reached)
        passing.extend([walk for walk, room in reached if is_lit(house, room)])
    return passing
