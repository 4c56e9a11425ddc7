"""Reads commands from texts."""

from goalcolumn.errors import Unreadable

NAMES_BEHIND_NUMBER = {"D": "down", "U": "up", "R": "right", "L": "left"}
NAMES_ALONE = {"H": "home", "E": "end"}
MOST_DIGITS = 40


def read_commands(text):
    """Return the list of commands that has this text."""
    if text == "none":
        return []
    commands = []
    for word in text.split(" "):
        command = read_command(word)
        if command is None:
            raise Unreadable(text)
        commands.append(command)
    return commands


def read_command(word):
    """Return the command that has this text, or None if there is none."""
    if word in NAMES_ALONE:
        return (NAMES_ALONE[word],)
    digits, letter = word[:-1], word[-1:]
    if letter in NAMES_BEHIND_NUMBER and is_number(digits):
        return NAMES_BEHIND_NUMBER[letter], int(digits)
    return None


def is_number(digits):
    """Whether this is an integer of at least 1, as it is written in a text."""
    if not 1 <= len(digits) <= MOST_DIGITS or digits[0] == "0":
        return False
    # isdigit would take digits of other scripts, too.
    return all([digit in "0123456789" for digit in digits])
