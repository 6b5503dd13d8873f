"""Walks that lead to the rooms of a house, and walks that it lets pass."""

from turnhouse.exploring import explore, walk_to
from turnhouse.rooms import exits_of, is_lit


def explore_house(house):
    return explore(0, lambda room: exits_of(house, room))


def ways_in(house):
    steps = explore_house(house)
    return [walk_to(steps, room) if room in steps else None for room in range(len(house))]


def some_walk(house):
    steps = explore_house(house)
    for room in steps:
        if is_lit(house, room):
            return walk_to(steps, room)
    return None


def one_turn_longer(house, reached):
    # Left goes ahead of right, so that walks that stand in the order of point 9 give longer ones in that order.
    longer = []
    for walk, room in reached:
        for turn, there in zip("lr", exits_of(house, room)):
            longer.append((walk + turn, there))
    return longer


def walks_up_to(house, most):
    passing = []
    reached = [("", 0)]
    for length in range(most + 1):
        if length > 0:
            reached = one_turn_longer(house, reached)
        passing.extend([walk for walk, room in reached if is_lit(house, room)])
    return passing
