"""The refusals, each with a class of its own."""


class ReckonError(ValueError):
    pass


class BadNumber(ReckonError):
    pass


class NoText(ReckonError):
    pass


class BadContext(ReckonError):
    pass


class BadCount(ReckonError):
    pass


class Trapped(ReckonError):
    def __init__(self, signal):
        self.signal = signal
