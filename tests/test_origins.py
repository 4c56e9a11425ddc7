"""Points 4 to 6 and the section goalcolumn/origins.py."""

import random
import unittest

from goalcolumn.origins import origins
from goalcolumn.running import reach, run
from tests.helper import HUGE, NO_COMMANDS
from tests.helper import assert_example, assert_raises, digits_number, lists_up_to
from tests.helper import random_lists, slow_run, small_number, texts_up_to

EXAMPLES = [
    """
>>> from goalcolumn.origins import origins
>>> [origins([9], 0, [('left', 2)], 0), origins([9], 0, [('left', 2)], 7), origins([9], 0, [('left', 2)], 8), origins([9], 0, [], None)]
[(0, 2), (9, None), None, (None, None)]
""",
]
ALONG_A_LINE = [("right", 1), ("right", 2), ("left", 1), ("left", 2), ("home",), ("end",)]
WAYS = ALONG_A_LINE + [("down", 1), ("up", 1)]


def contains(found, start):
    """Whether a goal at the start is one of those that origins tells."""
    if found is None:
        return False
    low, high = found
    if start is None:
        return high is None
    return low is not None and start >= low and (high is None or start <= high)


def rank(goal):
    """What orders the goals, None behind all integers."""
    return (goal is None, goal or 0)


class ExamplesTest(unittest.TestCase):

    def test_examples(self):
        for example in EXAMPLES:
            with self.subTest(example=example):
                assert_example(self, example)


class OriginsTest(unittest.TestCase):

    def compare(self, text, row, commands, most):
        """Compare all goals with runs from all goals up to a number and None."""
        starts = list(range(most + 1)) + [None]
        ends = [slow_run(text, (row, start), commands) for start in starts]
        if ends[0][0] == "impossible":
            for goal in (0, 1, None):
                assert_raises(self, "Impossible", ends[0][1], origins, text, row, commands, goal)
            return
        # A goal up to a few columns before the last start tells where its range ends.
        for goal in list(range(most - 3)) + [None]:
            matching = [start for start, (_, end) in zip(starts, ends) if end == goal]
            expected = (matching[0], matching[-1]) if matching else None
            self.assertEqual(origins(text, row, commands, goal), expected, (text, row, commands, goal))

    def test_short_lists_on_small_texts(self):
        for commands in lists_up_to(2):
            for text in texts_up_to(3, 2):
                for row in range(len(text)):
                    self.compare(text, row, commands, 10)

    def test_lists_of_three_on_two_lines(self):
        for commands in lists_up_to(3, WAYS):
            for text in [[0, 0], [0, 2], [2, 1], [1, 3], [3, 3], [4, 2]]:
                for row in (0, 1):
                    self.compare(text, row, commands, 12)

    def test_lists_of_four_along_a_line(self):
        for commands in lists_up_to(4, ALONG_A_LINE):
            for length in (0, 1, 4):
                self.compare([length], 0, commands, 14)

    def test_longer_lists(self):
        for chance, commands in random_lists(16, 500, 12, small_number):
            least, greatest, _ = reach(commands)
            text = [chance.randrange(12) for _ in range(greatest - least + 1)]
            self.compare(text, -least, commands, 50)

    def test_lines_and_numbers_of_thirty_digits(self):
        for chance, commands in random_lists(17, 1500, 20, digits_number):
            least, greatest, _ = reach(commands)
            text = [chance.randrange(10 ** chance.randrange(1, 31)) for _ in range(greatest - least + 1)]
            lowest = run(text, (-least, 0), commands)[1]
            highest = run(text, (-least, None), commands)[1]
            starts = [0, 1, HUGE, None] + [chance.randrange(10 ** chance.randrange(1, 31)) for _ in range(4)]
            goals = [run(text, (-least, start), commands)[1] for start in starts]
            goals += [0, None, chance.randrange(HUGE), lowest, highest]
            goals += [goal + step for goal in (lowest, highest) if goal is not None for step in (-1, 1) if goal + step >= 0]
            for goal in goals:
                found = origins(text, -least, commands, goal)
                self.assert_just(found, text, -least, commands, goal)
                for start in starts:
                    self.assertEqual(contains(found, start), run(text, (-least, start), commands)[1] == goal)

    def assert_just(self, found, text, row, commands, goal):
        """Assert that both ends of a range lead to the goal, and what is just outside does not."""
        lowest, highest = (run(text, (row, start), commands)[1] for start in (0, None))
        if found is None:
            self.assertFalse(rank(lowest) <= rank(goal) <= rank(highest))
            return
        low, high = found
        for start in (low, high):
            self.assertEqual(run(text, (row, start), commands)[1], goal)
        if low is not None and low > 0:
            self.assertNotEqual(run(text, (row, low - 1), commands)[1], goal)
        if high is not None:
            self.assertLessEqual(low, high)
            self.assertNotEqual(run(text, (row, high + 1), commands)[1], goal)

    def test_known_ranges(self):
        for text, row, commands, goal, expected in [
            ([HUGE], 0, [], 0, (0, 0)), ([HUGE], 0, [], HUGE, (HUGE, HUGE)), ([5], 0, [], 9, (9, 9)),
            ([5], 0, [], None, (None, None)),
            ([HUGE], 0, [("left", 1)], HUGE, None), ([HUGE], 0, [("left", 1)], HUGE - 1, (HUGE, None)),
            ([HUGE], 0, [("left", 1)], HUGE - 2, (HUGE - 1, HUGE - 1)), ([HUGE], 0, [("left", 9)], 0, (0, 9)),
            ([HUGE], 0, [("left", HUGE)], 0, (0, None)), ([HUGE], 0, [("left", HUGE - 1)], 0, (0, HUGE - 1)),
            ([HUGE], 0, [("left", 1)], None, None), ([HUGE], 0, [("right", 1)], None, None),
            ([HUGE], 0, [("right", 5)], 4, None), ([HUGE], 0, [("right", 5)], 5, (0, 0)),
            ([HUGE], 0, [("right", 5)], 6, (1, 1)), ([HUGE], 0, [("right", 5)], HUGE, (HUGE - 5, None)),
            ([HUGE], 0, [("right", HUGE)], HUGE, (0, None)), ([3], 0, [("right", 5)], 3, (0, None)),
            ([0], 0, [("right", 5)], 0, (0, None)), ([0], 0, [("left", 5)], 0, (0, None)),
            ([0], 0, [("left", 5)], 1, None), ([0], 0, [("left", 5)], None, None),
            ([5], 0, [("home",)], 0, (0, None)), ([5], 0, [("home",)], 1, None), ([5], 0, [("home",)], None, None),
            ([5], 0, [("end",)], None, (0, None)), ([5], 0, [("end",)], 0, None), ([5], 0, [("end",)], 5, None),
            ([5], 0, [("end",), ("left", 2)], 3, (0, None)), ([5], 0, [("end",), ("left", 2)], None, None),
            ([9, 4], 0, [("right", 2), ("down", 1), ("left", 1)], 3, (2, None)),
            ([9, 4], 0, [("right", 2), ("down", 1), ("left", 1)], 1, (0, 0)),
            ([9, 4], 0, [("right", 2), ("down", 1), ("left", 1)], 0, None),
            ([4, 9], 1, [("left", 3), ("up", 1), ("right", 2)], 2, (0, 3)),
            ([4, 9], 1, [("left", 3), ("up", 1), ("right", 2)], 4, (5, None)),
            ([7, 2, 9], 1, [("down", 1), ("up", 2)], 6, (6, 6)),
        ]:
            with self.subTest(text=text, commands=commands, goal=goal):
                self.assertEqual(repr(origins(text, row, commands, goal)), repr(expected))

    def test_forty_lines_and_twenty_commands(self):
        text = [HUGE - k for k in range(40)]
        commands = [("down", 4), ("right", 3)] * 9 + [("down", 3), ("left", 28)]
        self.assertEqual(origins(text, 0, commands, 0), (0, 1))
        self.assertEqual(origins(text, 0, commands, 5), (6, 6))
        # The cursor is shown at HUGE - 39 at most before it goes left.
        self.assertEqual(origins(text, 0, commands, HUGE - 67), (HUGE - 66, None))
        self.assertEqual(origins(text, 0, commands, HUGE - 68), (HUGE - 67, HUGE - 67))
        self.assertIsNone(origins(text, 0, commands, HUGE - 66))

    def test_what_is_returned_may_be_passed_on(self):
        low, high = origins([HUGE], 0, [("left", 5)], HUGE - 5)
        self.assertEqual((low, high), (HUGE, None))
        self.assertEqual(origins([low], 0, [], low), (low, low))
        self.assertEqual(origins([low], 0, [], high), (None, None))
        low, high = origins([3 * HUGE], 0, [("left", HUGE), ("left", HUGE)], 5)
        self.assertEqual((low, high), (2 * HUGE + 5, 2 * HUGE + 5))
        self.assertEqual(origins([low + 1], 0, [("right", low)], low), (0, 0))


class ErrorsTest(unittest.TestCase):

    def test_texts(self):
        for row, goal in [(0, 0), (4, -1), (-1, None)]:
            assert_raises(self, "InvalidText", None, origins, [], row, [], goal)
            assert_raises(self, "InvalidText", 1, origins, [3, -1, -2], row, [], goal)

    def test_rows_and_goals(self):
        for row, goal in [(1, 0), (-1, 0), (1, None), (-1, None), (0, -1), (0, -HUGE), (HUGE, 2), (2, -1)]:
            for commands in [[], [("end",)], [("up", 1)]]:
                assert_raises(self, "InvalidCursor", (row, goal), origins, [3], row, commands, goal)
        assert_raises(self, "InvalidCursor", (40, 3), origins, [1] * 40, 40, [], 3)
        self.assertEqual(origins([1] * 40, 39, [], 3), (3, 3))

    def test_each_way_to_be_no_command(self):
        for wrong in NO_COMMANDS:
            for before in [[], [("right", 1)], [("down", 9), ("end",)]]:
                for goal in [0, None]:
                    assert_raises(self, "InvalidCommand", len(before), origins, [5], 0, before + [wrong, ()], goal)

    def test_impossible_commands(self):
        for commands, index in [
            ([("up", 1)], 0), ([("down", 2)], 0), ([("end",), ("down", 1), ("down", 1), ("up", 9)], 2),
            ([("home",), ("down", HUGE)], 1), ([("up", 1), ("down", 1)], 0),
        ]:
            for goal in [0, 1, HUGE, None]:
                assert_raises(self, "Impossible", index, origins, [3, 3], 0, commands, goal)

    def test_the_error_that_is_due_first(self):
        wrong = [("up", 1), ("up", 0)]
        assert_raises(self, "InvalidText", None, origins, [], 5, wrong, -1)
        assert_raises(self, "InvalidText", 0, origins, [-1], 5, wrong, -1)
        assert_raises(self, "InvalidCursor", (5, -1), origins, [1], 5, wrong, -1)
        assert_raises(self, "InvalidCursor", (0, -1), origins, [1], 0, wrong[:1], -1)
        assert_raises(self, "InvalidCommand", 1, origins, [1], 0, wrong, 3)
        assert_raises(self, "Impossible", 0, origins, [1], 0, wrong[:1], 3)


if __name__ == "__main__":
    unittest.main()
