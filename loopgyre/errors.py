"""The refusals: one base under ValueError, the others each straight under it."""


class GyreError(ValueError):
    pass


class NoState(GyreError):
    def __init__(self, spot):
        self.spot = spot


class NoSquare(GyreError):
    pass


class NoTurn(GyreError):
    pass


class Unlike(GyreError):
    pass


class NoRoad(GyreError):
    pass


class NoSize(GyreError):
    pass


class NoText(GyreError):
    pass


class NoName(GyreError):
    pass
