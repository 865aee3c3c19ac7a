"""The refusals, one class for each."""


class FallError(ValueError):
    pass


class BadRow(FallError):
    pass


class BadStone(FallError):
    pass


class BadSide(FallError):
    pass


class BadText(FallError):
    pass
