"""The refusals, one class each; none but SeekError stands above another."""


class SeekError(ValueError):
    pass


class NoTable(SeekError):
    pass


class NoCell(SeekError):
    pass


class NoNumber(SeekError):
    pass


class NoSize(SeekError):
    pass


class NoStair(SeekError):
    pass


class NoLook(SeekError):
    pass


class NoPlace(SeekError):
    pass


class NoFit(SeekError):
    pass


class NoChange(SeekError):
    pass


class NoText(SeekError):
    pass


class NoName(SeekError):
    pass


class NoRow(SeekError):
    pass
