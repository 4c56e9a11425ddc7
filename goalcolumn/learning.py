"""Hides commands in boxes, and learns their form by asking where they lead."""

from goalcolumn.checks import check_commands
from goalcolumn.errors import Impossible
from goalcolumn.running import run


class Box:
    """A hidden list of commands that tells only where they lead."""

    def __init__(self, commands):
        check_commands(commands)
        self._commands = list(commands)
        self._questions = 0

    @property
    def questions(self):
        """How many times `answer` has returned."""
        return self._questions

    def answer(self, text, cursor):
        """Return the cursor after the hidden commands, or None if they are impossible."""
        try:
            place = run(text, cursor, self._commands)
        except Impossible:
            place = None
        self._questions += 1
        return place


class Probe:
    """Asks a box for the goal at the end when only one line, or the goal at the start, limits it."""

    def __init__(self, box, spanned, size):
        least, greatest, _ = spanned
        self._box = box
        self._row = -least
        # Bounds of at most size + 1 are probed. The goals that they lead to are at most size
        # greater, and need lines that are at most size longer: these lines limit none of them.
        self._lengths = [4 * size + 4] * (greatest - least + 1)

    def point(self, offset, bound):
        """Return (bound, goal at the end), the bound being a line's length, or (None) the goal at the start."""
        lengths = list(self._lengths)
        start = None
        if offset is None:
            start = bound
        else:
            lengths[self._row + offset] = bound
        return bound, self._box.answer(lengths, (self._row, start))[1]


def learn(box, rows, size):
    """Return the form of the commands that a box hides."""
    spanned = learn_reach(box, rows)
    probe = Probe(box, spanned, size)
    _, top = probe.point(None, None)
    # Without a limit the goal is at most size only if the commands reach no greater one.
    if top is None or top > size:
        # Right and left add up to size, so that no piece begins behind size + 1.
        return spanned, learn_pieces(probe, spanned, size, size + 1)
    pieces = learn_pieces(probe, spanned, size, top)
    return spanned, pieces + [(top + 1, None, None)]


def learn_reach(box, rows):
    """Return the reach of the commands that a box hides."""
    room = range(rows + 1)
    above = min([lines for lines in room if box.answer([0] * (lines + 1 + rows), (lines, 0)) is not None])
    below = min([lines for lines in room if box.answer([0] * (above + 1 + lines), (above, 0)) is not None])
    row, _ = box.answer([0] * (above + 1 + below), (above, 0))
    return -above, below, row - above


def learn_pieces(probe, spanned, size, last):
    """Return the pieces that begin with goals up to the last one."""
    changes = {}
    # If no goal is reached at all, the piece that tells so is the first one.
    if last > 0:
        changes[1] = []
    for offset in [None] + list(range(spanned[0], spanned[1] + 1)):
        for first, constant in learn_constants(probe, offset, size, last):
            changes.setdefault(first, []).append((offset, constant))
    pieces = []
    constants = {}
    for first in sorted(changes):
        for offset, constant in changes[first]:
            constants[offset] = constant
        lines = sorted([(line, constants[line]) for line in constants if line is not None])
        pieces.append((first, constants.get(None), lines))
    return pieces


def learn_constants(probe, offset, size, last):
    """Return (first, constant) for each goal up to the last one from which on a bound has a new constant."""
    points = [probe.point(offset, 0)]
    nearest = points[0][1]
    if nearest is None or nearest >= last:
        return []
    add_points(points, probe.point(offset, size + 1), probe, offset)
    found = []
    for (bound, goal), (_, next_goal) in zip(points, points[1:]):
        # Where the goals grow with the bounds, goal + 1 needs bound + 1, and so on.
        if next_goal > goal and (not found or found[-1][1] != bound - goal):
            found.append((goal + 1, bound - goal))
    return found


def add_points(points, high, probe, offset):
    """Append points up to a high one, such that there is no bend between any two neighbours."""
    low = points[-1]
    if is_straight(low, high):
        points.append(high)
        return
    middle = probe.point(offset, (low[0] + high[0]) // 2)
    stops = [middle]
    if not is_straight(low, middle) and not is_straight(middle, high):
        # The middle may well lie where the goal stays. Then these are the ends of that stretch.
        start = probe.point(offset, low[0] + middle[1] - low[1])
        end = probe.point(offset, high[0] - high[1] + middle[1])
        stops = [start, middle, end]
    for stop in stops + [high]:
        add_points(points, stop, probe, offset)


def is_straight(low, high):
    """Whether the goal, which never grows faster than the bound, stays or grows all the way."""
    return high[1] - low[1] in (0, high[0] - low[0])
