"""The errors of the package: each keeps its arguments themselves."""


class GuessError(ValueError):
    """What all errors of the package stand under; never raised itself."""


class InvalidNumber(GuessError):
    """A value is not the number that is asked for."""

    def __init__(self, value):
        super().__init__("not a number that may stand here")
        self.value = value


class InvalidShare(GuessError):
    """A value is not the share that is asked for."""

    def __init__(self, value):
        super().__init__("not a share that may stand here")
        self.value = value


class InvalidRow(GuessError):
    """A value is not the row that is asked for."""

    def __init__(self, value):
        super().__init__("not a row that may stand here")
        self.value = value


class InvalidLot(GuessError):
    """A value is not the lot that is asked for."""

    def __init__(self, value):
        super().__init__("not a lot that may stand here")
        self.value = value


class InvalidRules(GuessError):
    """A value is not a list of rules, or makes none."""

    def __init__(self, value):
        super().__init__("not a list of rules")
        self.value = value


class InvalidPart(GuessError):
    """A value is not a part of the list."""

    def __init__(self, value):
        super().__init__("not a part of the list")
        self.value = value


class InvalidGuess(GuessError):
    """A value is not a guess, or not a drawn guess, of the list."""

    def __init__(self, value):
        super().__init__("not a guess of the list")
        self.value = value


class InvalidShown(GuessError):
    """A value is not a tuple of shown answers."""

    def __init__(self, value):
        super().__init__("not shown answers of the list")
        self.value = value


class InvalidPoint(GuessError):
    """A value is not a point that may be asked for."""

    def __init__(self, value):
        super().__init__("not a point that may stand here")
        self.value = value


class InvalidSource(GuessError):
    """A value is not a source, or not a prior."""

    def __init__(self, value):
        super().__init__("not a source that may stand here")
        self.value = value


class InvalidPoints(GuessError):
    """A value is not a tuple of points of the kind."""

    def __init__(self, value):
        super().__init__("not points of the kind")
        self.value = value


class InvalidMove(GuessError):
    """A value is not a move that can be done."""

    def __init__(self, value):
        super().__init__("not a move that can be done")
        self.value = value


class InvalidQuestion(GuessError):
    """A value is not a question that may be asked here."""

    def __init__(self, value):
        super().__init__("not a question that may stand here")
        self.value = value


class InvalidText(GuessError):
    """A text is not one that was written so; it is wrong at a place."""

    def __init__(self, text, at):
        super().__init__("not a text of this kind")
        self.text = text
        self.at = at


class Undefined(GuessError):
    """What is asked for does not exist; what tells why."""

    def __init__(self, what):
        super().__init__("what is asked for does not exist")
        self.what = what


class NothingToUndo(GuessError):
    """No move is there that could be undone, or done again."""

    def __init__(self, word):
        super().__init__("no move is there for this")
        self.word = word
