"""The refusals of the program."""


class SayError(ValueError):
    """Any refusal of the program."""


class BadSaying(SayError):
    """What was handed in makes no saying."""


class BadSheet(SayError):
    """What was handed in makes no sheet."""


class BadPart(SayError):
    """The sheet has no such box, or a box no such part."""


class Clashing(SayError):
    """The sayings of a sheet can't all be kept; `numbers` shows it, one for each saying."""

    def __init__(self, numbers):
        super().__init__("the sayings can't all be kept")
        self.numbers = list(numbers)


class Unlike(SayError):
    """Two sheets have other names, or have them in another turn."""


class BadBlocks(SayError):
    """What was handed in makes no blocks, or no two unlike names of them."""


class BadRows(SayError):
    """A text is no sheet; `row` is the first row that is none, counted from 0."""

    def __init__(self, row):
        super().__init__("the text has a row that is none")
        self.row = row
