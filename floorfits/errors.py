"""The refusals of the program: one class for each, all under FloorError."""


class FloorError(ValueError):
    pass


class NoPlace(FloorError):
    pass


class NoTile(FloorError):
    pass


class NoFill(FloorError):
    pass


class Unlike(FloorError):
    pass


class Nothing(FloorError):
    pass


class NoText(FloorError):
    pass


class NoName(FloorError):
    pass
