"""The refusals of the program, each straight under TurnError."""


class TurnError(ValueError):
    """What all refusals have in common."""


class NoWeb(TurnError):
    """What is handed in as a web is none."""


class NoWord(TurnError):
    """What is handed in as a word of a web is none."""


class NoPlace(TurnError):
    """What is handed in as a place is none as it is due."""


class NoNumber(TurnError):
    """What is handed in as a number is none as it is due."""


class NoRun(TurnError):
    """What is handed in as a run of a web is none."""


class TooMany(TurnError):
    """There are more places, ties or letters than are taken."""


class NoLine(TurnError):
    """A line that a desk is told is none of its lines."""


class NoText(TurnError):
    """A thing is no web's text: the word of number `at` is the first wrong one."""

    def __init__(self, at):
        super().__init__(f"not a web's text, from word {at} on")
        self.at = at
