"""Refusals: one class for each, all of them BeatErrors."""


class BeatError(ValueError):
    pass


class NoLetter(BeatError):
    pass


class NoCode(BeatError):
    pass


class NoWire(BeatError):
    def __init__(self, at):
        BeatError.__init__(self, f"no wire at word {at}")
        self.at = at


class NoWindow(BeatError):
    pass


class NoMark(BeatError):
    pass


class NoText(BeatError):
    pass


class NoName(BeatError):
    pass


class NoRow(BeatError):
    pass
