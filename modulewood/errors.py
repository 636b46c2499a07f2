"""The refusals: NetError, and each other one straight under it."""


class NetError(ValueError):
    pass


class NoNet(NetError):
    pass


class NoPlace(NetError):
    pass


class SamePlace(NetError):
    pass


class Twice(NetError):
    pass


class Taken(NetError):
    pass


class NoColours(NetError):
    pass


class NoSet(NetError):
    pass


class NoParting(NetError):
    pass


class NoGroup(NetError):
    pass


class TooMany(NetError):
    pass


class NoDeed(NetError):
    pass


class Unlike(NetError):
    pass


class NoText(NetError):
    pass


class NoRow(NetError):
    pass


class NoName(NetError):
    pass
