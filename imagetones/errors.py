"""The errors of the package: each one is a direct subclass of ToneError."""


class ToneError(ValueError):
    """The base of all errors."""


class InvalidSignal(ToneError):
    """A signal that is no integer from 0 on."""


class InvalidDial(ToneError):
    """A dial that is no integer."""


class InvalidTone(ToneError):
    """A tone that is no integer from 0 on."""


class InvalidBand(ToneError):
    """A band that is no pair (least, greatest)."""


class InvalidNumber(ToneError):
    """A number that cannot stand at its place."""


class Impossible(ToneError):
    """A question that the receiver cannot be asked, or that has no answer."""


class NothingToUndo(ToneError):
    """No call is left that could be taken back."""


class InvalidCommand(ToneError):
    """A command that has none of the console's forms."""


class InvalidReceiver(ToneError):
    """No receiver: `index` tells the wrong stage, the number of stages for the rate, or None."""

    def __init__(self, index):
        super().__init__("this is no receiver")
        self.index = index


class InvalidLooks(ToneError):
    """No looks: `index` tells the wrong look, or None."""

    def __init__(self, index):
        super().__init__("these are no looks")
        self.index = index


class InvalidSignals(ToneError):
    """No list of signals: `index` tells the wrong signal, or None."""

    def __init__(self, index):
        super().__init__("these are no signals")
        self.index = index


class InvalidSyntax(ToneError):
    """A text that cannot be read: `word` tells the wrong word, or None."""

    def __init__(self, word):
        super().__init__("this text cannot be read")
        self.word = word
