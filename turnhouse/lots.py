"""Lots of rooms, each told by one whole number: the bit at a room's place stands where the room is in the lot.

So a lot of many rooms takes little space, and to join two lots or to ask what they share is one step.
"""


def rooms_in(lot):
    rooms = []
    while lot > 0:
        last = lot & -lot
        rooms.append(last.bit_length() - 1)
        lot ^= last
    return rooms


def lot_of(rooms):
    lot = 0
    for room in rooms:
        lot |= 1 << room
    return lot


def joined(lots, chosen):
    # All that is in those lots of the list whose places are in the lot `chosen`. It is asked so often that the
    # places are not listed first.
    whole = 0
    while chosen > 0:
        last = chosen & -chosen
        whole |= lots[last.bit_length() - 1]
        chosen ^= last
    return whole


def renamed(lot, names):
    # A room without a name, None, is left out.
    return lot_of([names[room] for room in rooms_in(lot) if names[room] is not None])
