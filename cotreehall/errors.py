"""The refusals of the program, one class for each."""


class HallError(ValueError):
    pass


class NoPoint(HallError):
    pass


class NoWeb(HallError):
    pass


class NoTie(HallError):
    pass


class NoText(HallError):
    pass


class NoKind(HallError):
    pass


class NoRow(HallError):
    pass


class NoName(HallError):
    pass
