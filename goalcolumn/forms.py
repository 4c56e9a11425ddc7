"""Normal forms of lists of commands, which tell whether two lists have the same effect."""

from goalcolumn.boxes import least_text, require
from goalcolumn.running import reach, row_change, run


def form(commands):
    """Return the reach of the commands and the pieces of their boxes."""
    spanned = reach(commands)
    return spanned, pieces(commands, spanned[2])


def pieces(commands, offset):
    """Return the pieces of valid commands that end at this offset."""
    found = []
    lines = {}
    first = 1
    added = 0
    # As in box, but for all goals v from `first` on at once: each bound is v plus a constant.
    for command in reversed(commands):
        match command[0]:
            case "home":
                add_piece(found, (first, None, None))
                return found
            case "end":
                add_piece(found, (first, None, sorted(lines.items())))
                return found
            case "right":
                require(lines, offset, added)
                added -= command[1]
                # For goals up to here, a cursor in any column gets far enough to the right.
                if first <= -added:
                    add_piece(found, (first, None, sorted(lines.items())))
                    first = 1 - added
            case "left":
                added += command[1]
                require(lines, offset, added)
            case _:
                offset -= row_change(command)
    add_piece(found, (first, added, sorted(lines.items())))
    return found


def add_piece(found, piece):
    """Append a piece unless it only goes on with the last one."""
    if not found or found[-1][1:] != piece[1:]:
        found.append(piece)


def same_effect(first, second):
    """Return whether two lists of commands do the same on all texts."""
    return form(first) == form(second)


def parting(first, second):
    """Return a text and a cursor on which two lists differ, or None if there are none."""
    first_form, second_form = form(first), form(second)
    if first_form == second_form:
        return None
    if first_form[0] != second_form[0]:
        return parting_of_reaches(first_form[0], second_form[0])
    # Where two boxes differ, the smallest start in one of them is not in the other one.
    goal = differing_goal(first_form[1], second_form[1])
    found = least_text(first, goal)
    if found is not None and differ(found, first, second):
        return found
    return least_text(second, goal)


def differing_goal(first, second):
    """Return the least goal for which two lists of pieces that differ have different boxes."""
    same = 0
    while first[same:same + 1] == second[same:same + 1]:
        same += 1
    # Up to here the boxes are the same, and a piece differs from the one before it.
    return min([piece[0] for piece in first[same:same + 1] + second[same:same + 1]])


def parting_of_reaches(first, second):
    """Return a text and a cursor on which lists with these two reaches differ."""
    # The text of the smaller reach has no room for the other one, unless the two
    # differ only in where they end.
    least, greatest, _ = min(first, second, key=rows_between)
    return [0] * (greatest - least + 1), (-least, 0)


def rows_between(spanned):
    """Return how far apart the least and the greatest offset of a reach are."""
    return spanned[1] - spanned[0]


def differ(start, first, second):
    """Whether two lists that are possible for a text and a cursor lead to different cursors."""
    text, cursor = start
    return run(text, cursor, first) != run(text, cursor, second)
