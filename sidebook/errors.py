"""The refusals: each has a class of its own, straight under BookError."""


class BookError(ValueError):
    pass


class NoStand(BookError):
    pass


class NoDeed(BookError):
    pass


class NoPot(BookError):
    def __init__(self, pot):
        BookError.__init__(self, f"pot {pot} is none")
        self.pot = pot


class NoSpan(BookError):
    pass


class NoText(BookError):
    pass
