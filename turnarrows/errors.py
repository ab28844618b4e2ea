"""The refusals of the program, one class each."""


class ArrowError(ValueError):
    pass


class NoArrows(ArrowError):
    pass


class NoRoom(ArrowError):
    pass


class NoWalkers(ArrowError):
    pass


class NotShut(ArrowError):
    pass


class NeverBack(ArrowError):
    pass


class NoTour(ArrowError):
    pass


class NoRow(ArrowError):
    pass


class NoHouse(ArrowError):
    def __init__(self, at):
        self.at = at


class NotOpen(ArrowError):
    def __init__(self, room):
        self.room = room


class Nobody(ArrowError):
    def __init__(self, at):
        self.at = at


class NoText(ArrowError):
    def __init__(self, at):
        self.at = at


class TooGreat(ArrowError):
    def __init__(self, many, most):
        self.many = many
        self.most = most
