"""The refusals: seven, side by side, under one base."""


class RoomError(ValueError):
    pass


class NoProgram(RoomError):
    pass


class NoWord(RoomError):
    pass


class NoPlace(RoomError):
    pass


class TooBig(RoomError):
    pass


class NoRow(RoomError):
    pass


class NoName(RoomError):
    pass


class NoText(RoomError):
    def __init__(self, at):
        RoomError.__init__(self, f"row {at} is no row of a program here")
        self.at = at
