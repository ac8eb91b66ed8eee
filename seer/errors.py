"""The refusals: one class for each, all under one base and under no other."""


class SeerError(ValueError):
    pass


class NoStretch(SeerError):
    pass


class NoRest(SeerError):
    pass


class NoShape(SeerError):
    pass


class NoBox(SeerError):
    pass


class FixedBox(SeerError):
    pass


class NoSum(SeerError):
    pass


class NoStep(SeerError):
    pass


class NoCall(SeerError):
    pass


class NoStart(SeerError):
    pass


class NoWay(SeerError):
    pass
