"""The refusals of Putsigns, one class for each kind."""


class PutError(ValueError):
    """Any refusal."""


class NoRow(PutError):
    """What is no row."""


class NoSigns(PutError):
    """What is no signs to put."""


class NoWay(PutError):
    """What is no way."""


class NoNumber(PutError):
    """What is no whole number, or none of those that are asked for."""


class NoPlace(PutError):
    """What is no place of a way."""


class NoFit(PutError):
    """A way with a sign that is not among the signs to put."""


class NoForm(PutError):
    """What is no form of a row with signs to put."""


class NoHolds(PutError):
    """What is no holds."""


class TooMany(PutError):
    """A row of more numbers than can be asked about."""


class NoText(PutError):
    """What writes no row, no way, no holds."""


class NoAsk(PutError):
    """What is no line that the desk answers."""
