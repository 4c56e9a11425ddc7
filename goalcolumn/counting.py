"""Counts the texts on which commands lead to a goal."""

from goalcolumn.boxes import box
from goalcolumn.checks import check_commands, check_cursor, check_number
from goalcolumn.running import reach


def count_texts(lines, longest, cursor, commands, goal):
    """Return on how many texts of this size the commands are possible and lead to the goal."""
    check_number(lines, 1)
    check_number(longest, 0)
    check_cursor(lines, cursor)
    check_commands(commands)
    if goal is not None:
        check_number(goal, 0)
    row, start = cursor
    least, greatest, _ = reach(commands)
    if row + least < 0 or row + greatest >= lines:
        return 0
    if goal is None:
        # Where the goal is an integer at the end, it is no greater than the start or a line.
        beyond = max(longest, 0 if start is None else start) + 1
        return count_reaching(lines, longest, start, commands, beyond)
    reaching = count_reaching(lines, longest, start, commands, goal)
    return reaching - count_reaching(lines, longest, start, commands, goal + 1)


def count_reaching(lines, longest, start, commands, goal):
    """Return on how many texts possible commands lead from a goal to at least another one."""
    found = (None, []) if goal == 0 else box(commands, goal)
    if found is None:
        return 0
    least, bounds = found
    if least is not None and start is not None and start < least:
        return 0
    count = 1
    for _, bound in bounds:
        count *= max(longest + 1 - bound, 0)
    for _ in range(lines - len(bounds)):
        count *= longest + 1
    return count
