"""The refusals: one class for each, all straight beneath ShareError."""


class ShareError(ValueError):
    pass


class NoBottom(ShareError):
    pass


class NoDrawing(ShareError):
    pass


class NoShares(ShareError):
    pass


class NoWeights(ShareError):
    pass


class NoWorths(ShareError):
    pass


class NoSize(ShareError):
    pass


class NoPair(ShareError):
    pass


class NoLot(ShareError):
    pass


class NoGuess(ShareError):
    pass


class NoGroups(ShareError):
    pass


class TooMany(ShareError):
    pass


class NoText(ShareError):
    pass


class NoLine(ShareError):
    pass
