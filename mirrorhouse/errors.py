"""The refusals: one class for each, all of them under HouseError alone."""


class HouseError(ValueError):
    pass


class NoText(HouseError):
    pass


class NoHouse(HouseError):
    pass


class NoWord(HouseError):
    pass


class TooMany(HouseError):
    pass


class Endless(HouseError):
    def __init__(self, mirrors):
        # The base is given a text, lest the error keep the caller's own list among its words.
        HouseError.__init__(self, "a part of the house is never ending")
        self.mirrors = list(mirrors)
