"""Runs commands again and again."""

from goalcolumn.checks import check_commands, check_cursor, check_number, check_text
from goalcolumn.effects import effect
from goalcolumn.running import reach, run


def repeat(text, cursor, commands, times):
    """Return the cursor after the commands were run so many times."""
    check_text(text)
    check_cursor(len(text), cursor)
    check_commands(commands)
    check_number(times, 0)
    if times == 0:
        return cursor
    if reach(commands)[2] == 0:
        return repeat_in_row(text, cursor, commands, times)
    place = cursor
    # Such commands leave the text before there are more repetitions than lines.
    for _ in range(times):
        place = run(text, place, commands)
    return place


def repeat_in_row(text, cursor, commands, times):
    """Return the cursor after at least one run of commands that come back to their row."""
    row, goal = run(text, cursor, commands)
    low, high, change = effect(text, row, commands)
    # The first run brings the goal between the bounds; there the others add up.
    if goal is not None:
        goal = max(goal + (times - 1) * change, low)
        goal = goal if high is None else min(goal, high)
    return row, goal
