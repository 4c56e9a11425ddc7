"""Point 9 and the section goalcolumn/boxes.py."""

import unittest

from goalcolumn.boxes import box, least_text
from goalcolumn.running import reach, run
from tests.helper import HUGE, NO_COMMANDS, SMALL_COMMANDS
from tests.helper import assert_example, assert_raises, at_least, digits_number, lists_up_to
from tests.helper import random_lists, slow_run, small_number, starts_up_to

EXAMPLES = [
    """
>>> from goalcolumn.boxes import box
>>> [box([('right', 3)], 2), box([('right', 3)], 5), box([('home',)], 1), box([('down', 1), ('left', 2), ('end',)], 7)]
[(None, [(0, 2)]), (2, [(0, 5)]), None, (None, [])]
""",
    """
>>> from goalcolumn.boxes import least_text
>>> least_text([('up', 1), ('right', 1), ('down', 2)], 3)
([3, 0, 0], (1, 2))
""",
]


def holds(found, text, cursor):
    """Whether all conditions of a box hold for a start."""
    if found is None:
        return False
    start, lines = found
    row, goal = cursor
    return (start is None or at_least(goal, start)) and all(text[row + at] >= bound for at, bound in lines)


class ExamplesTest(unittest.TestCase):

    def test_examples(self):
        for example in EXAMPLES:
            with self.subTest(example=example):
                assert_example(self, example)


class BoxTest(unittest.TestCase):

    def assert_normal(self, found):
        """Assert that the box has lines in ascending order and bounds of at least 1."""
        if found is None:
            return
        self.assertIs(type(found), tuple)
        start, lines = found
        self.assertTrue(start is None or (type(start) is int and start >= 1))
        self.assertIs(type(lines), list)
        offsets = [at for at, _ in lines]
        self.assertEqual(offsets, sorted(set(offsets)))
        for line in lines:
            self.assertIs(type(line), tuple)
            self.assertGreaterEqual(line[1], 1)

    def assert_each_condition_is_needed(self, commands, goal, found):
        """Assert that a start that just keeps the box leads to the goal, and none that just breaks it."""
        start, lines = found
        least, greatest, _ = reach(commands)
        most = max([goal, start or 0] + [bound for _, bound in lines]) + 5
        text = [most] * (greatest - least + 1)
        for at, bound in lines:
            text[at - least] = bound
        self.assertTrue(at_least(run(text, (-least, start or 0), commands)[1], goal))
        if start is not None:
            self.assertFalse(at_least(run(text, (-least, start - 1), commands)[1], goal))
        for at, bound in lines:
            text[at - least] -= 1
            for high in [start or 0, most, None]:
                self.assertFalse(at_least(run(text, (-least, high), commands)[1], goal))
            text[at - least] += 1

    def test_all_short_lists_on_small_texts(self):
        starts = list(starts_up_to(3, 3, [0, 1, 2, 3, 4, None]))
        for commands in lists_up_to(2):
            boxes = [box(commands, goal) for goal in range(1, 6)]
            for found in boxes:
                self.assert_normal(found)
            for text, cursor in starts:
                row, end = slow_run(text, cursor, commands)
                if row == "impossible":
                    continue
                for goal, found in enumerate(boxes, 1):
                    self.assertEqual(holds(found, text, cursor), at_least(end, goal), (commands, text, cursor, goal))

    def test_all_lists_of_three_on_small_texts(self):
        starts = list(starts_up_to(2, 3, [0, 1, 2, 4, None]))
        for commands in lists_up_to(3):
            boxes = [box(commands, goal) for goal in range(1, 5)]
            least, greatest, _ = reach(commands)
            for text, cursor in starts:
                if cursor[0] + least < 0 or cursor[0] + greatest >= len(text):
                    continue
                end = run(text, cursor, commands)[1]
                for goal, found in enumerate(boxes, 1):
                    self.assertEqual(holds(found, text, cursor), at_least(end, goal), (commands, text, cursor, goal))

    def test_every_condition_is_needed(self):
        for commands in lists_up_to(4):
            for goal in range(1, 5):
                found = box(commands, goal)
                self.assert_normal(found)
                if found is not None:
                    self.assert_each_condition_is_needed(commands, goal, found)

    def test_never_exactly_if_no_start_leads_there(self):
        for commands in lists_up_to(3):
            least, greatest, _ = reach(commands)
            end = run([50] * (greatest - least + 1), (-least, None), commands)[1]
            for goal in range(1, 5):
                self.assertEqual(box(commands, goal) is None, not at_least(end, goal))

    def test_longer_lists(self):
        for chance, commands in random_lists(9, 3000, 12, small_number):
            goal = chance.randrange(1, 9)
            self.compare_around_the_bounds(chance, commands, goal)

    def test_numbers_and_goals_of_thirty_digits(self):
        for chance, commands in random_lists(30, 1500, 12, digits_number):
            goal = chance.randrange(1, 10 ** chance.randrange(1, 31))
            self.compare_around_the_bounds(chance, commands, goal)

    def compare_around_the_bounds(self, chance, commands, goal):
        found = box(commands, goal)
        self.assert_normal(found)
        least, greatest, _ = reach(commands)
        lengths = {} if found is None else dict(found[1])
        start = goal if found is None or found[0] is None else found[0]
        if found is not None:
            self.assert_each_condition_is_needed(commands, goal, found)
        for _ in range(8):
            text = []
            for at in range(least, greatest + 1):
                text.append(max(0, lengths.get(at, chance.choice([0, goal])) + chance.choice([-1, 0, 0, 0, 1])))
            cursor = (-least, chance.choice([start - 1, start, start + 1, None]))
            self.assertEqual(holds(found, text, cursor), at_least(run(text, cursor, commands)[1], goal))

    def test_known_boxes(self):
        for commands, goal, expected in [
            ([], 1, (1, [])), ([], HUGE, (HUGE, [])),
            ([("down", 4), ("up", 9)], 3, (3, [])),
            ([("right", 3)], 3, (None, [(0, 3)])), ([("right", 3)], 4, (1, [(0, 4)])),
            ([("left", 3)], 1, (4, [(0, 4)])), ([("end",)], HUGE, (None, [])),
            ([("home",)], HUGE, None), ([("home",), ("right", 2)], 2, (None, [(0, 2)])),
            ([("home",), ("right", 2)], 3, None), ([("home",), ("end",)], 3, (None, [])),
            ([("end",), ("home",)], 1, None), ([("end",), ("left", 2)], 5, (None, [(0, 7)])),
            ([("left", 2), ("right", 5)], 5, (None, [(0, 5)])), ([("left", 2), ("right", 5)], 6, (3, [(0, 6)])),
            ([("right", 5), ("left", 2)], 3, (None, [(0, 5)])), ([("right", 5), ("left", 2)], 4, (1, [(0, 6)])),
            ([("up", 2), ("left", 1), ("down", 5), ("right", 1), ("up", 4), ("left", 2)], 4, (6, [(-2, 6), (-1, 6), (3, 6)])),
            ([("down", HUGE), ("left", HUGE)], HUGE, (2 * HUGE, [(HUGE, 2 * HUGE)])),
            ([("up", HUGE), ("right", HUGE)], HUGE, (None, [(-HUGE, HUGE)])),
        ]:
            with self.subTest(commands=commands, goal=goal):
                self.assertEqual(box(commands, goal), expected)

    def test_long_lists(self):
        commands = [("right", 2), ("left", 1)] * 10000 + [("down", 1), ("left", 3)] * 1000
        self.assertEqual(box(commands, 1), (None, [(0, 3002)] + [(k, 3001 - 3 * (k - 1)) for k in range(1, 1001)]))

    def test_what_is_returned_may_be_passed_on(self):
        start, lines = box([("right", 1), ("left", HUGE), ("left", HUGE)], HUGE)
        self.assertEqual((start, lines), (3 * HUGE - 1, [(0, 3 * HUGE)]))
        self.assertEqual(box([("left", start)], lines[0][1]), (6 * HUGE - 1, [(0, 6 * HUGE - 1)]))
        text, cursor = least_text([("left", HUGE), ("left", HUGE)], HUGE)
        self.assertEqual(run(text, cursor, [("left", HUGE), ("left", HUGE)]), (0, HUGE))


class LeastTextTest(unittest.TestCase):

    def compare(self, commands, goal):
        found = least_text(commands, goal)
        self.assertEqual(found is None, box(commands, goal) is None)
        if found is None:
            return
        text, (row, start) = found
        least, greatest, _ = reach(commands)
        self.assertEqual((len(text), row), (greatest - least + 1, -least))
        self.assertTrue(at_least(run(text, (row, start), commands)[1], goal))
        self.assertGreaterEqual(start, 0)
        if start > 0:
            self.assertFalse(at_least(run(text, (row, start - 1), commands)[1], goal))
        for at in range(len(text)):
            if text[at] > 0:
                text[at] -= 1
                self.assertFalse(at_least(run(text, (row, start), commands)[1], goal))
                text[at] += 1

    def test_all_short_lists(self):
        for commands in lists_up_to(4):
            for goal in range(1, 5):
                self.compare(commands, goal)

    def test_longer_lists(self):
        for chance, commands in random_lists(200, 1500, 20, small_number):
            self.compare(commands, chance.randrange(1, 9))

    def test_numbers_and_goals_of_thirty_digits(self):
        for chance, commands in random_lists(201, 500, 20, digits_number):
            self.compare(commands, chance.randrange(1, 10 ** chance.randrange(1, 31)))

    def test_the_smallest_of_all_small_starts(self):
        for commands in lists_up_to(2):
            for goal in (1, 2):
                reached = []
                for text, cursor in starts_up_to(3, 3, [0, 1, 2, 3, 4]):
                    row, end = slow_run(text, cursor, commands)
                    if row != "impossible" and at_least(end, goal):
                        reached.append((len(text), sum(text), cursor[1], text, cursor))
                found = least_text(commands, goal)
                if found is None:
                    self.assertEqual(reached, [])
                elif reached and max(found[0] + [found[1][1]]) <= 3:
                    self.assertEqual(found, min(reached)[3:])

    def test_a_reach_of_two_hundred_rows(self):
        self.assertEqual(least_text([("down", 199), ("left", 1)], 2), ([0] * 199 + [3], (0, 3)))
        self.assertEqual(least_text([("up", 199), ("left", 1)], 2), ([3] + [0] * 199, (199, 3)))
        commands = [("up", 100), ("right", 2), ("down", 199), ("left", 4), ("up", 50), ("right", 1)]
        found = least_text(commands, 9)
        self.assertEqual(found, ([12] + [0] * 148 + [9] + [0] * 49 + [12], (100, 10)))
        self.compare(commands, 9)

    def test_lines_that_are_only_passed_have_length_0(self):
        self.assertEqual(least_text([("down", 3), ("up", 1), ("left", 1)], 1), ([0, 0, 2, 0], (0, 2)))

    def test_without_conditions(self):
        self.assertEqual(least_text([("end",)], 5), ([0], (0, 0)))
        self.assertEqual(least_text([("up", 1), ("end",)], 5), ([0, 0], (1, 0)))
        self.assertEqual(least_text([], 5), ([0], (0, 5)))

    def test_never(self):
        self.assertIsNone(least_text([("home",)], 1))
        self.assertIsNone(least_text([("home",), ("right", 2), ("down", 3)], 3))


class ErrorsTest(unittest.TestCase):

    def test_each_way_to_be_no_command(self):
        for function in [box, least_text]:
            for wrong in NO_COMMANDS:
                for before in [[], [("right", 1)], [("home",), ("end",)], [("end",), ("up", 1), ("home",)]]:
                    commands = before + [wrong, ("left",)]
                    with self.subTest(commands=commands):
                        assert_raises(self, "InvalidCommand", len(before), function, commands, 1)

    def test_goals_below_1(self):
        for function in [box, least_text]:
            for commands in [[], [("home",)], [("end",)], [("right", 1), ("down", 2)]]:
                for goal in [0, -1, -HUGE]:
                    assert_raises(self, "InvalidNumber", goal, function, commands, goal)
                function(commands, 1)

    def test_the_commands_are_checked_before_the_goal(self):
        for function in [box, least_text]:
            for wrong in NO_COMMANDS:
                for goal in [0, -5]:
                    assert_raises(self, "InvalidCommand", 1, function, [("home",), wrong], goal)

    def test_small_commands_are_commands(self):
        for command in SMALL_COMMANDS:
            self.assertIsNone(box([command, ("home",)], 1))


if __name__ == "__main__":
    unittest.main()
