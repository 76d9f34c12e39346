"""The refusals of the program."""


class TellError(ValueError):
    """What stands above every refusal."""


class NoText(TellError):
    """What was handed in is not the text of what was to be read."""


class TooGreat(TellError):
    """What is asked is told of lesser things only."""


class NoName(TellError):
    """No name, or one that nothing is kept by."""


class Taken(TellError):
    """A table is kept by that name already."""


class NoFit(TellError):
    """What was handed in does not fit the table that is kept."""


class NoBack(TellError):
    """There are not so many deeds to go back to."""


class NoRow(TellError):
    """No row that the desk reads."""


class Wrong(TellError):
    """A telling that is wrong, with its first wrong pair."""

    def __init__(self, row, column):
        TellError.__init__(self, f"wrong at row {row}, column {column}")
        self.row = row
        self.column = column
