"""The refusals of the program, one class each."""


# Any refusal.
class SpaceError(ValueError):
    pass


# There are not 1 to 16 points.
class TooMany(SpaceError):
    pass


# A number is no point of the space.
class NoPoint(SpaceError):
    pass


# Pairs lead from a point over another one back to it.
class Round(SpaceError):
    pass


# A point can't be folded away.
class NoFold(SpaceError):
    pass


# A text is not a written space.
class NotRead(SpaceError):
    pass
