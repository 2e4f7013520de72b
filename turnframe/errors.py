"""The refusals: one class for each, all of them under FrameError."""


class FrameError(ValueError):
    pass


class NoKind(FrameError):
    pass


class NoNumber(FrameError):
    pass


class NoFit(FrameError):
    pass


class NoTurn(FrameError):
    pass


class NoInverse(FrameError):

    def __init__(self, rank):
        FrameError.__init__(self, f"a table of rank {rank}, less than its rows, has no inverse")
        self.rank = rank


class NoText(FrameError):
    pass


class NoName(FrameError):
    pass


class NoRow(FrameError):
    pass
