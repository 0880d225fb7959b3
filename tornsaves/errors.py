"""The errors of the package."""


class PlanError(ValueError):
    """The base class of all errors."""


class InvalidProgram(PlanError):
    """A value is not a program, or not one that the call takes."""


class InvalidStore(PlanError):
    """A value is not a store of the program."""


class NotInput(PlanError):
    """A value is not an input of the program, or not a list of different inputs."""


class InvalidPlan(PlanError):
    """A value is not a plan of the program."""


class InvalidNumber(PlanError):
    """A number is of the wrong kind or outside of its limits."""


class InvalidCrashes(PlanError):
    """A list does not describe a run; `index` tells the first number at fault, if it is a list."""

    def __init__(self, index=None):
        PlanError.__init__(self, f"no possible list of crashes (index {index})")
        self.index = index


class TooLarge(PlanError):
    """A program is beyond the limits of the call."""


class InvalidWeights(PlanError):
    """A value is not a triple of weights of the program."""


class InvalidPositions(PlanError):
    """A value is not a list of positions for saves."""


class InvalidMove(PlanError):
    """A move or a crash is not possible."""


class ParseError(PlanError):
    """A text does not denote a program with a plan; `line` tells the line at fault."""

    def __init__(self, line=0):
        PlanError.__init__(self, f"no program with a plan (line {line})")
        self.line = line


class DecodeError(PlanError):
    """A string does not encode a list of numbers; `offset` tells the byte at fault."""

    def __init__(self, offset=None):
        PlanError.__init__(self, f"no encoded list of numbers (offset {offset})")
        self.offset = offset
