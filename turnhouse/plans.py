"""The houses of plans."""

from turnhouse.building import both, either, opposite
from turnhouse.least import least
from turnhouse.sparing import least_again, least_behind

PLAIN_HOUSES = {
    ("none",): ((0, 0, False),),
    ("still",): ((1, 1, True), (1, 1, False)),
    ("turn", "l"): ((1, 2, False), (2, 2, True), (2, 2, False)),
    ("turn", "r"): ((1, 2, False), (1, 1, False), (1, 1, True)),
}


def plans_within(plan):
    # Each plan stands ahead of those that are in it. A list of those still to be looked at takes the place of
    # recursion, since plans may lie deep within one another.
    found = []
    waiting = [plan]
    while len(waiting) > 0:
        here = waiting.pop()
        found.append(here)
        if here not in PLAIN_HOUSES:
            waiting.extend(here[1:])
    return found


def house_from_parts(word, parts):
    if word == "not":
        return least(opposite(parts[0]))
    if word == "both":
        return least(both(parts[0], parts[1]))
    if word == "either":
        return least(either(parts[0], parts[1]))
    if word == "then":
        return least_behind(parts[0], parts[1])
    return least_again(parts[0])


def house_of(plan):
    # Each house on the way is made least at once: else their rooms would soon be too many.
    houses = {}
    for here in reversed(plans_within(plan)):
        if here in PLAIN_HOUSES:
            houses[here] = list(PLAIN_HOUSES[here])
        elif here not in houses:
            houses[here] = house_from_parts(here[0], [houses[part] for part in here[1:]])
    return houses[plan]
