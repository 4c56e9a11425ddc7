"""Tells from which goals at the start commands lead to a goal."""

from goalcolumn.effects import effect
from goalcolumn.running import run


def origins(text, row, commands, goal):
    """Return the least and the greatest goal at the start that lead to the goal, or None."""
    # Which commands are possible does not depend on the goal, so that this raises all errors.
    run(text, (row, goal), commands)
    low, high, change = effect(text, row, commands)
    if is_less(goal, low) or is_less(high, goal):
        return None
    before = None if goal is None else goal - change
    return 0 if goal == low else before, None if goal == high else before


def is_less(goal, other):
    """Whether a goal is less than another one, None being the greatest."""
    return goal is not None and (other is None or goal < other)
