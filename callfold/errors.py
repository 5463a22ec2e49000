"""The refusals of the program: one class each, all straight under FoldError."""


class FoldError(ValueError):
    pass


class Twice(FoldError):
    pass


class NoDeed(FoldError):
    pass


class WrongCount(FoldError):
    pass


class TooDeep(FoldError):
    pass


class TooLong(FoldError):
    pass


class TooBig(FoldError):
    pass


class NoCall(FoldError):
    pass


class NoMark(FoldError):
    pass


class TooMany(FoldError):
    pass


class Called(FoldError):
    pass


class NoWay(FoldError):
    pass


class NoRow(FoldError):
    pass


class NoBack(FoldError):
    pass


class Broken(FoldError):
    pass


class Ringed(FoldError):
    def __init__(self, ring):
        # Python's own error keeps what it is made with; a text put there leaves no hold on the asker's list.
        FoldError.__init__(self, "the marks close a ring")
        self.ring = list(ring)


class BadRun(FoldError):
    def __init__(self, run):
        FoldError.__init__(self, f"run {run} is not told as done")
        self.run = run


class NoText(FoldError):
    def __init__(self, row):
        FoldError.__init__(self, f"row {row} can not stand, or is lacking")
        self.row = row
