"""The refusals of the program."""


class SetError(ValueError):
    pass


class NoNumber(SetError):
    pass


class NoText(SetError):
    pass


class NoPair(SetError):
    pass


class NoSet(SetError):
    pass
