"""The refusals of the program."""


class HallError(ValueError):
    pass


class NoText(HallError):
    pass


class NoWorld(HallError):
    pass
