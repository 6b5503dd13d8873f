"""The houses of plans."""

from turnhouse.building import both, either, opposite
from turnhouse.fewer import made_fewer, without_useless
from turnhouse.forks import again_forks, behind_forks, both_forks, either_forks, forks_of_house, turned_round
from turnhouse.least import least
from turnhouse.settling import least_settled
from turnhouse.surveying import Survey

PLAIN_HOUSES = {
    ("none",): ((0, 0, False),),
    ("still",): ((1, 1, True), (1, 1, False)),
    ("turn", "l"): ((1, 2, False), (2, 2, True), (2, 2, False)),
    ("turn", "r"): ((1, 2, False), (1, 1, False), (1, 1, True)),
}

# Not both is either not the one or not the other; and the other way round.
TURNED_BY_NOT = {"both": "either", "either": "both"}

# To pair the rooms of two houses with forks is not worth while where there are more pairs.
MOST_PAIRS = 2000


class Built:
    # The least house of a plan, and a house with forks that has the same walks and few rooms.

    def __init__(self, house, forks):
        self.house = house
        self.forks = forks


def told_otherwise(plan):
    # A plan that the same walks fit: without `not` of `not` and `many` of `many`, and with `not` further within, since
    # forks are lost there.
    here = plan
    while here[0] == "not" and here[1][0] == "not":
        here = here[1][1]
    while here[0] == "many" and here[1][0] == "many":
        here = here[1]
    if here[0] == "not" and here[1][0] in TURNED_BY_NOT:
        inner = here[1]
        return (TURNED_BY_NOT[inner[0]], ("not", inner[1]), ("not", inner[2]))
    return here


def plans_within(plan):
    # Each plan stands ahead of those that are in it. A list of those still to be looked at takes the place of
    # recursion, since plans may lie deep within one another.
    found = []
    waiting = [plan]
    while len(waiting) > 0:
        here = told_otherwise(waiting.pop())
        found.append(here)
        if here not in PLAIN_HOUSES:
            waiting.extend(here[1:])
    return found


def settled_choices(word, parts):
    # Made of the parts' forks, and made of their houses: with fewer rooms mostly, but not always, the shorter way.
    houses = [forks_of_house(part.house) for part in parts]
    choices = []
    for given in ([part.forks for part in parts], houses):
        if word == "then":
            choices.append(made_fewer(behind_forks(given[0], given[1])))
        else:
            choices.append(made_fewer(again_forks(given[0])))
    if choices[0].size() == choices[1].size():
        return choices[:1]
    return sorted(choices, key=lambda forks: forks.size())


def backwards_choice(forks, most):
    # Told backwards, the same walks may need far fewer rooms; None where these would be more than `most`.
    survey = Survey(turned_round(forks))
    survey.go_on(most)
    if not survey.is_whole():
        return None
    return without_useless(turned_round(forks_of_house(least(survey.rooms))))


def fewest_rooms(house, forks):
    # The smallest of some houses with forks that have the same walks; `forks` is one of them, or None.
    choices = [without_useless(forks_of_house(house))]
    if forks is not None:
        choices.append(made_fewer(forks))
    best = min(choices, key=lambda choice: choice.size())
    turned = backwards_choice(best, best.size())
    if turned is not None and turned.size() < best.size():
        return turned
    return best


def built_from_parts(word, parts):
    if word == "not":
        house = least(opposite(parts[0].house))
        return Built(house, fewest_rooms(house, None))
    if word == "both":
        house = least(both(parts[0].house, parts[1].house))
        return Built(house, fewest_rooms(house, both_forks(parts[0].forks, parts[1].forks, MOST_PAIRS)))
    if word == "either":
        house = least(either(parts[0].house, parts[1].house))
        return Built(house, fewest_rooms(house, either_forks(parts[0].forks, parts[1].forks)))
    choices = settled_choices(word, parts)
    house = least_settled(choices)
    return Built(house, fewest_rooms(house, choices[0]))


def house_of(plan):
    # Each house on the way is made least at once: else their rooms would soon be too many.
    built = {}
    for here in reversed(plans_within(plan)):
        if here in PLAIN_HOUSES:
            house = list(PLAIN_HOUSES[here])
            built[here] = Built(house, fewest_rooms(house, None))
        elif here not in built:
            built[here] = built_from_parts(here[0], [built[told_otherwise(part)] for part in here[1:]])
    return built[told_otherwise(plan)].house
