"""The least house of a house."""

from turnhouse.exploring import lay_out
from turnhouse.groups import Groups
from turnhouse.rooms import exits_of, is_lit


def least(house):
    groups = Groups(house)

    def one_of(group):
        return min(groups.members[group])

    def exits(group):
        return [groups.group_of[room] for room in exits_of(house, one_of(group))]

    def lit(group):
        return is_lit(house, one_of(group))

    return lay_out(groups.group_of[0], exits, lit)
