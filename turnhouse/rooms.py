"""The rooms of a house, and where walks lead from them."""

from turnhouse.errors import NoRoom, NoWalk


def exits_of(house, room):
    return house[room][:2]


def is_lit(house, room):
    return house[room][2]


def check_room(house, room):
    # A number below nought would count from the list's end. The words leave the number out: Python
    # refuses to write a very large one.
    if not 0 <= room < len(house):
        raise NoRoom("no room of the house has this number")


def next_room(house, room, turn):
    if turn == "l":
        return exits_of(house, room)[0]
    if turn == "r":
        return exits_of(house, room)[1]
    raise NoWalk(f"{turn!r} is no turn")


def room_at(house, room, walk):
    # The room comes first: where room and walk are both wrong, it is NoRoom.
    check_room(house, room)
    here = room
    for turn in walk:
        here = next_room(house, here, turn)
    return here


def lets(house, walk):
    return is_lit(house, room_at(house, 0, walk))
