"""The refusals: one class for each, all of them straight under FloatError."""


class FloatError(ValueError):
    pass


class NoWidth(FloatError):
    pass


class NoWord(FloatError):
    pass


class NoWay(FloatError):
    pass


class NoNumber(FloatError):
    pass


class NoMatch(FloatError):
    pass


class NoText(FloatError):
    pass


class NoSpan(FloatError):
    pass


class NoName(FloatError):
    pass


class NoRow(FloatError):
    pass
