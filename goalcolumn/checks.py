"""Checks of texts, cursors, commands and numbers, which raise the errors for invalid ones."""

from goalcolumn.errors import InvalidCommand, InvalidCursor, InvalidNumber, InvalidText

WITH_NUMBER = ("down", "up", "right", "left")
WITHOUT_NUMBER = ("home", "end")


def check_text(text):
    """Raise InvalidText if there are no lines or one has a negative length."""
    if not text:
        raise InvalidText(None)
    for index, length in enumerate(text):
        if length < 0:
            raise InvalidText(index)


def check_cursor(lines, cursor):
    """Raise InvalidCursor if the cursor is on none of so many lines or its goal is negative."""
    row, goal = cursor
    if not 0 <= row < lines or (goal is not None and goal < 0):
        raise InvalidCursor(cursor)


def check_commands(commands):
    """Raise InvalidCommand for the first tuple that is not a command."""
    for index, command in enumerate(commands):
        if not is_command(command):
            raise InvalidCommand(index)


def is_command(command):
    """Whether a tuple has a known name and exactly the number that this name needs."""
    if len(command) == 1:
        return command[0] in WITHOUT_NUMBER
    return len(command) == 2 and command[0] in WITH_NUMBER and is_count(command[1])


def is_count(number):
    """Whether this is an integer of at least 1."""
    # isinstance alone would take True for the integer 1.
    return isinstance(number, int) and not isinstance(number, bool) and number >= 1


def check_number(number, least):
    """Raise InvalidNumber if the number is less than the least one allowed."""
    if number < least:
        raise InvalidNumber(number)
