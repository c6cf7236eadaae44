"""The refusals. All stand straight under MendError, so that taking one never takes another."""


class MendError(ValueError):
    pass


class NoParcel(MendError):
    pass


class NoStand(MendError):
    pass


class TooWide(MendError):
    pass


class Fallen(MendError):
    pass


class NotUp(MendError):
    pass


class NoPath(MendError):
    pass


class NoName(MendError):
    pass


class NoFormer(MendError):
    pass


class NoRow(MendError):
    pass


class NoFile(MendError):
    pass


class NoShelf(MendError):
    def __init__(self, line):
        self.line = line
