"""Tells what commands do to all goals on one text."""

from goalcolumn.running import run


def effect(text, row, commands):
    """Return (low, high, change): a goal ends at goal + change, but at least at low and at most at high.

    The goal None ends at high. The arguments are valid and the commands possible in this row.
    """
    # Each command adds a number and keeps the sum between two bounds; therefore all of them
    # together do so, too, and the bounds are where the least and the greatest goal end.
    low = run(text, (row, 0), commands)[1]
    high = run(text, (row, None), commands)[1]
    return low, high, total_change(commands)


def total_change(commands):
    """Return by how much all commands together move a goal that no line and no margin stops."""
    change = 0
    for command in commands:
        if command[0] == "right":
            change += command[1]
        elif command[0] == "left":
            change -= command[1]
    return change
