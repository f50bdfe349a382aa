"""The refusals of the program."""


class FloodError(ValueError):
    pass


class NoCell(FloodError):
    pass


class NoRow(FloodError):
    pass


class NoFloor(FloodError):
    def __init__(self, line):
        self.line = line
