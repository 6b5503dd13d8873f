"""The rooms of a house in groups: rooms of one group are told apart by no walk, rooms of two groups by some walk."""

from turnhouse.rooms import exits_of, is_lit


def rooms_leading_to(house):
    leading = [[] for room in house]
    for room in range(len(house)):
        for there in exits_of(house, room):
            leading[there].append(room)
    return leading


def gathered(marked):
    rooms = {}
    for mark, room in marked:
        if mark not in rooms:
            rooms[mark] = {}
        rooms[mark][room] = True
    return rooms


class Groups:
    # A group is parted where its rooms' exits lead to different groups. Of the parts the largest keeps the group's
    # number, so that a room gets another number only when its group shrinks to half or less; and only the rooms that
    # lead to such a room must be looked at again. So large houses don't take long either.

    def __init__(self, house):
        self.house = house
        self.leading_to = rooms_leading_to(house)
        self.group_of = [0 for room in house]
        self.members = [gathered([(0, room) for room in range(len(house))])[0]]
        self.waiting = dict(self.members[0])
        self.part(0, [(is_lit(house, room), room) for room in range(len(house))])
        while len(self.waiting) > 0:
            self.part_waiting()

    def part_waiting(self):
        touched = gathered([(self.group_of[room], room) for room in self.waiting])
        self.waiting = {}
        for group in touched:
            self.part(group, [(self.groups_ahead(room), room) for room in touched[group]])

    def groups_ahead(self, room):
        exits = exits_of(self.house, room)
        return (self.group_of[exits[0]], self.group_of[exits[1]])

    def part(self, group, marked):
        # Rooms of the group that are not marked stay together: their exits lead where they led before.
        unmarked = self.members[group]
        for mark, room in marked:
            unmarked.pop(room)
        by_size = sorted([unmarked] + list(gathered(marked).values()), key=len, reverse=True)
        self.members[group] = by_size[0]
        for rooms in by_size[1:]:
            if len(rooms) > 0:
                self.add_group(rooms)

    def add_group(self, rooms):
        for room in rooms:
            self.group_of[room] = len(self.members)
            for before in self.leading_to[room]:
                self.waiting[before] = True
        self.members.append(rooms)
