"""The refusals of the program, one class each."""


class FloorError(ValueError):
    """Any refusal."""


class NoRoom(FloorError):
    """The works do not fit before the end."""


class NoOrder(FloorError):
    """What is told of the works is no order of them."""


class NoText(FloorError):
    """A text is of another form."""


class NoKind(FloorError):
    """No kind of floor has this word."""


class NoFloor(FloorError):
    """The rows are no floor of the kind."""


class NoRow(FloorError):
    """The desk has no such row."""


class NoName(FloorError):
    """A word is no name, or no floor stands by it."""
