"""Points 4 to 6 and the section goalcolumn/repeating.py."""

import random
import unittest

from goalcolumn.repeating import repeat
from goalcolumn.running import run
from tests.helper import HUGE, NO_COMMANDS, SMALL_COMMANDS
from tests.helper import assert_example, assert_raises, lists_up_to, slow_run, starts_up_to

EXAMPLES = [
    """
>>> from goalcolumn.repeating import repeat
>>> [repeat([10 ** 25, 50], (0, 0), [('right', 7), ('left', 3)], 10 ** 20), repeat([9, 3], (0, 8), [('down', 1), ('right', 1), ('up', 1)], 10 ** 20)]
[(0, 400000000000000000000), (0, 3)]
""",
]
MANY = 10 ** 29
ALONG_A_LINE = [("right", 1), ("right", 3), ("left", 1), ("left", 2), ("home",), ("end",)]


def slow_repeat(text, cursor, commands, times):
    """The cursor after each number of repetitions up to this one, ending with ("impossible", index)."""
    found = [cursor]
    while len(found) <= times and found[-1][0] != "impossible":
        found.append(slow_run(text, found[-1], commands))
    return found


def staying_list(chance, rows, row, many, number):
    """A random list of commands that stay in a text and come back to their row."""
    commands = []
    place = row
    for _ in range(many):
        name = chance.choice(["down", "up", "right", "left", "right", "left"])
        if name in ("right", "left"):
            commands.append((name, number()))
        elif name == "down" and place + 1 < rows:
            step = chance.randrange(1, rows - place)
            place += step
            commands.append((name, step))
        elif name == "up" and place > 0:
            step = chance.randrange(1, place + 1)
            place -= step
            commands.append((name, step))
    if chance.random() < 0.2:
        commands.insert(chance.randrange(len(commands) + 1), chance.choice([("home",), ("end",)]))
    if place != row:
        commands.append(("up", place - row) if place > row else ("down", row - place))
    return commands


class ExamplesTest(unittest.TestCase):

    def test_examples(self):
        for example in EXAMPLES:
            with self.subTest(example=example):
                assert_example(self, example)


class RepeatTest(unittest.TestCase):

    def compare(self, text, cursor, commands, times):
        """Compare with all numbers of repetitions up to this one."""
        for done, expected in enumerate(slow_repeat(text, cursor, commands, times)):
            if expected[0] != "impossible":
                self.assertEqual(repeat(text, cursor, commands, done), expected, (text, cursor, commands, done))
                continue
            for more in (done, done + 1, MANY):
                assert_raises(self, "Impossible", expected[1], repeat, text, cursor, commands, more)

    def test_short_lists_on_small_texts(self):
        for commands in lists_up_to(2):
            for text, cursor in starts_up_to(3, 2, [0, 1, 3, None]):
                self.compare(text, cursor, commands, 4)

    def test_lists_along_a_line(self):
        for commands in lists_up_to(3, ALONG_A_LINE):
            for text, cursor in starts_up_to(1, 5, [0, 1, 4, 6, None]):
                self.compare(text, cursor, commands, 4)

    def test_lists_of_three_on_two_lines(self):
        for commands in lists_up_to(3):
            for text, cursor in starts_up_to(2, 2, [0, 2, None]):
                self.compare(text, cursor, commands, 3)

    def test_no_times_change_nothing(self):
        for cursor in [(0, 0), (0, 9), (0, None), (1, 3), (1, HUGE)]:
            for commands in [[], [("home",)], [("end",)], [("right", 2)], [("up", 1)], [("down", 3)], [("down", HUGE)]]:
                self.assertEqual(repeat([5, 2], cursor, commands, 0), cursor)

    def test_one_time_is_run(self):
        chance = random.Random(1)
        for _ in range(500):
            text = [chance.randrange(9) for _ in range(chance.randrange(1, 6))]
            cursor = (chance.randrange(len(text)), chance.choice([0, 3, 12, None]))
            commands = [chance.choice(SMALL_COMMANDS) for _ in range(chance.randrange(9))]
            expected = slow_run(text, cursor, commands)
            if expected[0] == "impossible":
                assert_raises(self, "Impossible", expected[1], repeat, text, cursor, commands, 1)
            else:
                self.assertEqual(repeat(text, cursor, commands, 1), expected)

    def test_lists_that_stay_compared_one_by_one(self):
        chance = random.Random(2)
        for _ in range(600):
            text = [chance.randrange(60) for _ in range(chance.randrange(1, 6))]
            cursor = (chance.randrange(len(text)), chance.choice([0, 3, 30, 70, None]))
            commands = staying_list(chance, len(text), cursor[0], 20, lambda: chance.randrange(1, 9))
            slow = slow_repeat(text, cursor, commands, 70)
            for times in list(range(6)) + [20, 50, 70]:
                self.assertEqual(repeat(text, cursor, commands, times), slow[times])
            # No line is so long that the goal still changes after so many repetitions.
            self.assertEqual(slow[69], slow[70])
            self.assertEqual(repeat(text, cursor, commands, MANY), slow[70])

    def test_very_many_times_add_up(self):
        chance = random.Random(3)
        for _ in range(600):
            text = [chance.randrange(10 ** chance.randrange(1, 31)) for _ in range(chance.randrange(1, 6))]
            cursor = (chance.randrange(len(text)), chance.choice([0, chance.randrange(10 ** 29), HUGE, None]))
            digits = chance.choice([1, 2, 10, 30])
            commands = staying_list(chance, len(text), cursor[0], 10, lambda: chance.randrange(1, 10 ** digits))
            some = chance.randrange(10 ** chance.randrange(1, 30))
            for more in (1, 2, chance.randrange(10 ** chance.randrange(1, 30))):
                between = repeat(text, cursor, commands, some)
                self.assertEqual(repeat(text, cursor, commands, some + more), repeat(text, between, commands, more))
                self.assertEqual(repeat(text, cursor, commands * 2, some), repeat(text, cursor, commands, 2 * some))
            self.assertEqual(repeat(text, cursor, commands, some + 1),
                             run(text, repeat(text, cursor, commands, some), commands))

    def test_lines_of_thirty_digits(self):
        for text, goal, commands, expected in [
            ([HUGE], 0, [("right", 1)], MANY),
            ([HUGE], 5, [("right", 9)], 9 * MANY + 5),
            ([HUGE], 0, [("right", 10)], HUGE),
            ([HUGE], HUGE, [("left", 2)], HUGE - 2 * MANY),
            ([HUGE], None, [("left", 2)], HUGE - 2 * MANY),
            ([HUGE], None, [("left", 10)], 0),
            ([HUGE], 2 * HUGE, [("left", 1), ("right", 1)], HUGE),
            ([HUGE], 7, [("left", 9), ("right", 9)], 9),
            ([HUGE], 7, [("right", 9), ("left", 9)], 7),
            ([HUGE], None, [("right", 9), ("left", 9)], HUGE - 9),
            ([HUGE], 3, [("end",), ("left", HUGE - 1)], 1),
            ([HUGE], 3, [("home",), ("right", MANY)], MANY),
            ([HUGE], 3, [("left", 1), ("end",)], None),
            ([HUGE], 3, [("right", 1), ("home",)], 0),
            ([HUGE], None, [], None),
            ([HUGE], HUGE, [], HUGE),
            ([HUGE, 4], 0, [("right", 3), ("down", 1), ("left", 1), ("up", 1)], 3),
            ([HUGE, 4], HUGE, [("down", 1), ("up", 1)], HUGE),
            ([HUGE, 4], None, [("down", 1), ("up", 1)], None),
            ([HUGE, HUGE - 4], 0, [("right", 3), ("down", 1), ("left", 1), ("up", 1)], 2 * MANY),
            ([HUGE, HUGE - 4], 0, [("right", 30), ("down", 1), ("left", 1), ("up", 1)], HUGE - 5),
        ]:
            with self.subTest(goal=goal, commands=commands):
                self.assertEqual(repeat(text, (0, goal), commands, MANY), (0, expected))

    def test_lists_that_end_in_another_row(self):
        text = [40 - k for k in range(40)]
        commands = [("right", 2), ("down", 1), ("left", 1)]
        expected = slow_repeat(text, (0, 3), commands, 39)
        self.assertEqual([expected[1], expected[20], expected[39]], [(1, 4), (20, 19), (39, 0)])
        for times in range(40):
            self.assertEqual(repeat(text, (0, 3), commands, times), expected[times])
        for times in (40, 41, MANY, HUGE):
            assert_raises(self, "Impossible", 1, repeat, text, (0, 3), commands, times)

    def test_the_very_last_repetition_fails(self):
        for commands, row, possible, index in [
            ([("down", 1)], 0, 39, 0), ([("up", 1)], 39, 39, 0), ([("home",), ("end",), ("down", 1)], 30, 9, 2),
            ([("down", 3), ("left", 1), ("up", 1)], 0, 19, 0), ([("right", 1), ("up", 2), ("down", 1), ("left", 1)], 5, 4, 1),
            ([("down", 20)], 0, 1, 0), ([("down", 20), ("up", 1), ("down", 2)], 0, 1, 0),
            ([("down", 1), ("up", 3), ("down", 1)], 20, 19, 1), ([("up", 1), ("down", 3), ("up", 1)], 20, 18, 1),
            ([("down", 25), ("up", 5)], 0, 1, 0), ([("down", 5), ("up", 1), ("down", 16)], 0, 1, 2),
        ]:
            with self.subTest(commands=commands, row=row):
                repeat([7] * 40, (row, 3), commands, possible)
                for times in (possible + 1, possible + 2, MANY):
                    assert_raises(self, "Impossible", index, repeat, [7] * 40, (row, 3), commands, times)

    def test_kinds_of_values(self):
        for times in (0, 1, 5, MANY):
            for commands in [[], [("left", 1)], [("home",)], [("end",)]]:
                row, goal = found = repeat([5, 9], (1, 7), commands, times)
                self.assertEqual((type(found), type(row)), (tuple, int))
                self.assertIn(type(goal), (int, type(None)))

    def test_what_is_returned_may_be_passed_on(self):
        row, goal = repeat([MANY ** 2], (0, 0), [("right", HUGE)], HUGE)
        self.assertEqual((row, goal), (0, MANY ** 2))
        row, goal = repeat([HUGE ** 2], (0, 0), [("right", HUGE)], HUGE)
        self.assertEqual(repeat([goal], (row, goal), [("left", HUGE)], goal), (0, 0))
        self.assertEqual(repeat([goal + 1], (row, 0), [("right", 1)], goal), (0, goal))


class ErrorsTest(unittest.TestCase):

    def test_each_way_to_be_no_command(self):
        for wrong in NO_COMMANDS:
            for before in [[], [("right", 1)], [("down", 9), ("end",)]]:
                for times in [0, 1, MANY, -1]:
                    assert_raises(self, "InvalidCommand", len(before), repeat, [5], (0, 0), before + [wrong, ()], times)

    def test_texts_and_cursors(self):
        for times in [0, 1, MANY, -1]:
            assert_raises(self, "InvalidText", None, repeat, [], (0, 0), [], times)
            assert_raises(self, "InvalidText", 1, repeat, [3, -1, -2], (0, 0), [], times)
            for cursor in [(1, 0), (-1, 0), (0, -1), (0, -HUGE), (HUGE, None), (-1, None)]:
                assert_raises(self, "InvalidCursor", cursor, repeat, [3], cursor, [], times)

    def test_negative_times(self):
        for times in [-1, -2, -MANY]:
            for commands in [[], [("right", 1)], [("up", 1)], [("home",), ("down", HUGE)]]:
                assert_raises(self, "InvalidNumber", times, repeat, [3], (0, 0), commands, times)

    def test_impossible_commands(self):
        for commands, index in [
            ([("up", 1)], 0), ([("down", 2)], 0), ([("end",), ("down", 1), ("down", 1), ("up", 9)], 2),
            ([("down", 1), ("up", 2), ("down", 1)], 1), ([("up", HUGE), ("down", HUGE)], 0),
            ([("down", HUGE), ("up", HUGE)], 0),
        ]:
            for times in [1, 2, MANY]:
                assert_raises(self, "Impossible", index, repeat, [3, 3], (0, 0), commands, times)
            self.assertEqual(repeat([3, 3], (0, 0), commands, 0), (0, 0))
            assert_raises(self, "InvalidNumber", -1, repeat, [3, 3], (0, 0), commands, -1)

    def test_the_error_that_is_due_first(self):
        wrong = [("up", 1), ("up", 0)]
        assert_raises(self, "InvalidText", None, repeat, [], (5, -1), wrong, -1)
        assert_raises(self, "InvalidText", 0, repeat, [-1], (5, -1), wrong, -1)
        assert_raises(self, "InvalidCursor", (5, -1), repeat, [1], (5, -1), wrong, -1)
        assert_raises(self, "InvalidCommand", 1, repeat, [1], (0, 1), wrong, -1)
        assert_raises(self, "InvalidNumber", -1, repeat, [1], (0, 1), wrong[:1], -1)
        assert_raises(self, "Impossible", 0, repeat, [1], (0, 1), wrong[:1], 1)


if __name__ == "__main__":
    unittest.main()
