"""The rooms of a house in groups: rooms of one group are told apart by no walk, rooms of two groups by some walk."""

from turnhouse.rooms import exits_of, is_lit


def gathered(marked):
    rooms = {}
    for mark, room in marked:
        if mark not in rooms:
            rooms[mark] = {}
        rooms[mark][room] = True
    return rooms


class Groups:
    # A group is parted where its rooms' exits lead to different groups. Of the parts the largest keeps the group's
    # number, so that a room gets another number only when its group shrinks to half or less; and only the rooms that
    # lead to such a room must be looked at again. So large houses don't take long either.

    def __init__(self, house):
        self.house = house
        self.sort_out([is_lit(house, room) for room in range(len(house))])

    def rooms_ahead(self, room):
        return exits_of(self.house, room)

    def groups_ahead(self, room):
        exits = exits_of(self.house, room)
        return (self.group_of[exits[0]], self.group_of[exits[1]])

    def sort_out(self, lights):
        self.group_of = [0 for lit in lights]
        self.members = [dict([(room, True) for room in range(len(lights))])]
        self.leading_to = [[] for lit in lights]
        for room in range(len(lights)):
            for there in self.rooms_ahead(room):
                self.leading_to[there].append(room)
        self.waiting = dict(self.members[0])
        self.part(0, [(lights[room], room) for room in range(len(lights))])
        while len(self.waiting) > 0:
            self.part_waiting()

    def part_waiting(self):
        touched = gathered([(self.group_of[room], room) for room in self.waiting])
        self.waiting = {}
        for group in touched:
            self.part(group, [(self.groups_ahead(room), room) for room in touched[group]])

    def part(self, group, marked):
        # Rooms of the group that are not marked stay together: their exits lead where they led before.
        unmarked = self.members[group]
        for mark, room in marked:
            unmarked.pop(room)
        by_size = sorted([unmarked] + list(gathered(marked).values()), key=len, reverse=True)
        self.members[group] = by_size[0]
        for rooms in by_size[1:]:
            if len(rooms) > 0:
                self.add_group(rooms)

    def add_group(self, rooms):
        for room in rooms:
            self.group_of[room] = len(self.members)
            for before in self.leading_to[room]:
                self.waiting[before] = True
        self.members.append(rooms)
