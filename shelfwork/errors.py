"""The refusals of the program."""


class WorkError(ValueError):
    pass


class BadKinds(WorkError):
    pass


class NoDeed(WorkError):
    pass


class Clash(WorkError):
    pass


class NotDone(WorkError):
    pass


class NoText(WorkError):
    pass
