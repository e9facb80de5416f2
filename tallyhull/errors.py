"""The errors of the program, all of them below one base class."""


class TallyError(ValueError):
    """The base class of all errors that the program raises."""


class NotMatrix(TallyError):
    """A tuple is no matrix."""


class NotPointed(TallyError):
    """A matrix has a ring where a pointed one is wanted."""


class NotSide(TallyError):
    """A tuple is no side of the matrix."""


class NotVector(TallyError):
    """A tuple is no vector of the matrix."""


class NotCost(TallyError):
    """A tuple is no cost of the matrix."""


class NotMoves(TallyError):
    """A list is no list of moves."""


class NotPaper(TallyError):
    """What was handed in is no paper of the wanted kind."""


class BadNumber(TallyError):
    """A number, or how many things there are, is not allowed."""


class NoAnswer(TallyError):
    """There is nothing that could be returned."""


class TooLarge(TallyError):
    """The work or its result would be larger than the limit that is told."""


class OpenTrial(TallyError):
    """A trial is open where none may be, or none is where one must be."""


class Malformed(TallyError):
    """A text is malformed at the word with the index `at`."""

    def __init__(self, at):
        super().__init__(f"what is due at the word {at} does not stand there")
        self.at = at


class BadJournal(TallyError):
    """A record is wrong at the row with the index `row`."""

    def __init__(self, row):
        super().__init__(f"the row {row} of the record is wrong")
        self.row = row
