"""The refusals: one class for each, all straight beneath RingError."""


class RingError(ValueError):
    pass


class NoRing(RingError):
    pass


class NoSize(RingError):
    pass


class Unlike(RingError):
    pass


class NoBits(RingError):
    pass


class NoNote(RingError):
    pass
