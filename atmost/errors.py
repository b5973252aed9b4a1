"""The refusals, one class for each."""


class SayError(ValueError):
    pass


class BadCount(SayError):
    pass


class BadSayings(SayError):
    pass


class BadPlace(SayError):
    pass


class BadNumber(SayError):
    pass


class Broken(SayError):
    def __init__(self, ring):
        # Words take the place of what the error was made with: else the list handed in would be kept in it.
        SayError.__init__(self, "no heights keep all sayings")
        self.ring = list(ring)
