"""Tells from which starts commands lead to at least a given goal."""

from goalcolumn.checks import check_commands, check_number
from goalcolumn.running import reach, row_change


def box(commands, goal):
    """Return the conditions on the start and on the lines, or None for "never"."""
    check_commands(commands)
    check_number(goal, 1)
    bounds = {}
    needed = goal
    offset = reach(commands)[2]
    # Backwards, each command turns what is needed behind it into what is needed before it.
    for command in reversed(commands):
        match command[0]:
            case "home":
                return None
            case "end":
                needed = None
            case "right":
                require(bounds, offset, needed)
                needed = needed - command[1] if needed > command[1] else None
            case "left":
                needed += command[1]
                require(bounds, offset, needed)
            case _:
                offset -= row_change(command)
        if needed is None:
            break
    return needed, sorted(bounds.items())


def require(bounds, offset, bound):
    """Raise the bound of a line to at least this one."""
    bounds[offset] = max(bound, bounds.get(offset, bound))


def least_text(commands, goal):
    """Return the smallest text and cursor that lead to the goal, or None for "never"."""
    found = box(commands, goal)
    if found is None:
        return None
    start, lines = found
    least, greatest, _ = reach(commands)
    text = [0] * (greatest - least + 1)
    for offset, bound in lines:
        text[offset - least] = bound
    return text, (-least, 0 if start is None else start)
