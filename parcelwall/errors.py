"""The refusals of the program, a class for each."""


class WallError(ValueError):
    pass


class NoWall(WallError):
    pass


class NoSize(WallError):
    pass


class NoNights(WallError):
    pass


class NoBox(WallError):
    pass


class NoParcel(WallError):
    pass


class NoNote(WallError):
    pass
