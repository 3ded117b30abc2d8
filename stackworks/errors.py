"""The errors that the package raises."""


class StackError(ValueError):
    """Any error of the package."""


class InvalidText(StackError):
    """A value is not a program text; `index` is the number of the first wrong word."""

    def __init__(self, index):
        super().__init__(f"no program text: wrong at word {index}")
        self.index = index


class InvalidUnits(StackError):
    """A value is not a source text; the first wrong word is `index` of line `line`."""

    def __init__(self, line, index):
        super().__init__(f"no source text: wrong at line {line}, word {index}")
        self.line = line
        self.index = index


class TooHigh(StackError):
    """More cells than the limit would be needed."""

    def __init__(self, limit):
        super().__init__(f"more than {limit} cells")
        self.limit = limit


class TooLarge(StackError):
    """There would be more of something than the limit."""

    def __init__(self, limit):
        super().__init__(f"more than {limit}")
        self.limit = limit


class TooDeep(StackError):
    """More brackets than the limit would be open at the same time."""

    def __init__(self, limit):
        super().__init__(f"more than {limit} open brackets")
        self.limit = limit


class ShortStack(StackError):
    """A stack has fewer cells than the least number that is needed."""

    def __init__(self, least):
        super().__init__(f"fewer than {least} cells")
        self.least = least


class Lost(StackError):
    """The taken cell at a depth is not left over."""

    def __init__(self, depth):
        super().__init__(f"the cell at depth {depth} is lost")
        self.depth = depth


class InvalidProgram(StackError):
    """A value is not a Program."""


class NotPlain(StackError):
    """A program has choices."""


class InvalidTimes(StackError):
    """A value is not an integer from 0 to 10 ** 30."""


class InvalidStep(StackError):
    """A value is not the number of a step."""


class InvalidWord(StackError):
    """A value is not an instruction."""


class InvalidName(StackError):
    """A value is not one of the names."""


class InvalidStack(StackError):
    """A value is not a stack."""


class InvalidChoices(StackError):
    """A value does not tell each choice that is met, and no more."""


class InvalidEffect(StackError):
    """A value is not an effect."""


class InvalidDepth(StackError):
    """A value is not the depth of a cell."""


class InvalidSource(StackError):
    """A value is not a source."""


class NotBalanced(StackError):
    """An effect takes and leaves different numbers of cells."""


class InvalidIndex(StackError):
    """A value is not the number of an instruction in the text."""


class InvalidPile(StackError):
    """A value is not a pile."""


class NotReachable(StackError):
    """No program leads from a pile to the goal."""


class NoSuchStep(StackError):
    """There is no such later step."""


class InvalidValue(StackError):
    """A value cannot be a cell."""


class InvalidOperation(StackError):
    """A value is not an operation of a session."""


class Nothing(StackError):
    """There is nothing to undo."""


class InvalidCommand(StackError):
    """A value is not a command of the console."""
