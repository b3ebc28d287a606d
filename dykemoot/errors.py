"""The refusals of the program: DykeError is any of them, and each other class is one."""


class DykeError(ValueError):
    pass


class NoLand(DykeError):
    pass


class NoWork(DykeError):
    pass


class NoText(DykeError):
    pass


class NoSluice(DykeError):
    pass


class NoWay(DykeError):
    pass


class NoRing(DykeError):
    pass


class NoDecree(DykeError):
    pass


class NoLevel(DykeError):
    pass


class NoWish(DykeError):
    pass


class TooMany(DykeError):
    pass


class NoPurse(DykeError):
    pass


class NoVoice(DykeError):
    pass


class Outvoted(DykeError):
    pass


class Short(DykeError):
    # The moot tells by it which field has less in its purse than its share.
    def __init__(self, field):
        DykeError.__init__(self, field)
        self.field = field


class NoRow(DykeError):
    pass


class NoName(DykeError):
    pass
