"""The refusals: one class for each, all under WebError."""


class WebError(ValueError):
    pass


class NoWeb(WebError):
    pass


class NotClosed(WebError):
    def __init__(self, three):
        self.three = three


class TooMany(WebError):
    pass


class NoFit(WebError):
    def __init__(self, pair):
        self.pair = pair


class NoText(WebError):
    pass


class NotOne(WebError):
    pass


class NoRow(WebError):
    pass


class NoName(WebError):
    pass


class NoPlace(WebError):
    pass
