"""The errors of the package; each one keeps in `value` what it was raised for."""


class CursorError(ValueError):
    """What all errors of the package have in common."""


class InvalidText(CursorError):
    """A text has no lines (None) or a line of negative length (its index)."""

    def __init__(self, value):
        self.value = value


class InvalidCursor(CursorError):
    """A cursor is on no line of its text or has a negative goal."""

    def __init__(self, value):
        self.value = value


class InvalidCommand(CursorError):
    """The tuple at this index is not a command."""

    def __init__(self, value):
        self.value = value


class Impossible(CursorError):
    """The command at this index would leave the text."""

    def __init__(self, value):
        self.value = value


class InvalidNumber(CursorError):
    """A number is below the least one allowed."""

    def __init__(self, value):
        self.value = value


class NothingToUndo(CursorError):
    """There is no command to take back."""

    def __init__(self, value):
        self.value = value


class Unreadable(CursorError):
    """No list of commands has this text."""

    def __init__(self, value):
        self.value = value
