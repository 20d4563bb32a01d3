"""The refusals. No one stands under another, so that taking one by name never takes a second."""


class BellError(ValueError):
    pass


class NoClock(BellError):
    pass


class NoHappening(BellError):
    pass


class NoFit(BellError):
    pass


class NoWish(BellError):
    pass


class NoRoad(BellError):
    def __init__(self, road=None):
        self.road = road


class NoTime(BellError):
    pass


class NoRow(BellError):
    pass


class Backward(BellError):
    def __init__(self, now=None):
        self.now = now


class NoNumber(BellError):
    pass


class Fallen(BellError):
    pass


class NoBook(BellError):
    def __init__(self, line=None):
        self.line = line


class NoText(BellError):
    # A text that is not read line by line counts as its line 0, so 0 is borne where none is named.
    def __init__(self, line=0):
        self.line = line
