"""Moves a cursor through a text by commands."""

from goalcolumn.checks import check_commands, check_cursor, check_text
from goalcolumn.errors import Impossible


def column(text, cursor):
    """Return the column at which a cursor is shown."""
    check_text(text)
    check_cursor(len(text), cursor)
    row, goal = cursor
    return shown_column(text[row], goal)


def run(text, cursor, commands):
    """Return the cursor after the commands."""
    check_text(text)
    check_cursor(len(text), cursor)
    check_commands(commands)
    place = cursor
    for index, command in enumerate(commands):
        place = moved(text, place, command)
        if place is None:
            raise Impossible(index)
    return place


def places(text, cursor, commands):
    """Yield the cursor at the start and after each command."""
    # All errors, Impossible among them, are due before the first cursor.
    run(text, cursor, commands)
    place = cursor
    yield place
    for command in commands:
        place = moved(text, place, command)
        yield place


def reach(commands):
    """Return the least, the greatest and the last offset that the commands visit."""
    check_commands(commands)
    least = greatest = last = 0
    for command in commands:
        last += row_change(command)
        least = min(least, last)
        greatest = max(greatest, last)
    return least, greatest, last


def shown_column(length, goal):
    """Return the column at which a goal is shown on a line of this length."""
    return length if goal is None else min(goal, length)


def row_change(command):
    """Return by how many rows a valid command moves the cursor down."""
    if command[0] == "down":
        return command[1]
    if command[0] == "up":
        return -command[1]
    return 0


def moved(text, cursor, command):
    """Return the cursor after one valid command, or None if it is impossible."""
    row = cursor[0] + row_change(command)
    if not 0 <= row < len(text):
        return None
    return row, new_goal(text[row], cursor[1], command)


def new_goal(length, goal, command):
    """Return the goal after one valid command that ends on a line of this length."""
    match command[0]:
        case "home":
            return 0
        case "end":
            return None
        case "right":
            return min(shown_column(length, goal) + command[1], length)
        case "left":
            return max(shown_column(length, goal) - command[1], 0)
        case _:
            return goal
