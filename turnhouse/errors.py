"""The refusals of the program."""


class HouseError(ValueError):
    pass


class NoRoom(HouseError):
    pass


class NoWalk(HouseError):
    pass
