"""The refusals, each straight under MowError."""


class MowError(ValueError):
    pass


class NoText(MowError):
    pass


class NoFit(MowError):
    pass


class TooMany(MowError):
    pass


class Near(MowError):
    pass


class NoBlocks(MowError):
    pass


class NoBlock(MowError):
    pass


class Here(MowError):
    pass


class NoField(MowError):
    pass
