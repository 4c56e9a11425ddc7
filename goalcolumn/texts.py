"""Shows commands as text."""


def show_commands(commands):
    """Return the text of a list of commands."""
    if not commands:
        return "none"
    return " ".join([show_command(command) for command in commands])


def show_command(command):
    """Return the text of one valid command."""
    letter = command[0][0].upper()
    return letter if len(command) == 1 else show_number(command[1]) + letter


def show_number(number):
    """Return the digits of an integer of at least 0."""
    # A part at a time, since str refuses integers of more than 4300 digits.
    shown = ""
    while number >= 10 ** 64:
        number, rest = divmod(number, 10 ** 64)
        shown = str(rest).zfill(64) + shown
    return str(number) + shown
