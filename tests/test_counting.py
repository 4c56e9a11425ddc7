"""Points 4 to 7 and the section goalcolumn/counting.py."""

import itertools
import unittest

from goalcolumn.counting import count_texts
from tests.helper import HUGE, NO_COMMANDS
from tests.helper import assert_example, assert_raises, lists_up_to, random_lists, slow_run, small_number

EXAMPLES = [
    """
>>> from goalcolumn.counting import count_texts
>>> [count_texts(1, 4, (0, 2), [('right', 1)], 3), count_texts(2, 4, (0, 3), [('down', 1), ('left', 1)], 2), count_texts(1, 4, (0, 0), [('down', 1)], 0)]
[2, 10, 0]
""",
]
ALONG_A_LINE = [("right", 1), ("right", 2), ("left", 1), ("left", 3), ("home",), ("end",)]


class ExamplesTest(unittest.TestCase):

    def test_examples(self):
        for example in EXAMPLES:
            with self.subTest(example=example):
                assert_example(self, example)


class CountTest(unittest.TestCase):

    def compare(self, lines, longest, cursor, commands):
        """Compare the numbers of all goals with counting the texts one by one."""
        counts = {}
        for text in itertools.product(range(longest + 1), repeat=lines):
            row, end = slow_run(text, cursor, commands)
            if row != "impossible":
                counts[end] = counts.get(end, 0) + 1
        greatest = max([longest] + [goal for goal in [cursor[1], *counts] if goal is not None]) + 2
        told = [count_texts(lines, longest, cursor, commands, goal) for goal in [None] + list(range(greatest + 1))]
        expected = [counts.get(goal, 0) for goal in [None] + list(range(greatest + 1))]
        self.assertEqual(told, expected, (lines, longest, cursor, commands))
        self.assertIn(sum(told), (0, (longest + 1) ** lines))

    def test_short_lists(self):
        for commands in lists_up_to(2):
            for lines, longest in [(1, 0), (1, 3), (2, 1), (2, 2), (3, 1)]:
                for row in range(lines):
                    for start in (0, 1, 3, None):
                        self.compare(lines, longest, (row, start), commands)

    def test_lists_of_three(self):
        for commands in lists_up_to(3):
            for row in (0, 1):
                for start in (0, 2, None):
                    self.compare(2, 2, (row, start), commands)

    def test_lists_of_four_along_a_line(self):
        for commands in lists_up_to(4, ALONG_A_LINE):
            for start in (1, 7, None):
                self.compare(1, 5, (0, start), commands)

    def test_longer_lists(self):
        for chance, commands in random_lists(18, 300, 10, small_number):
            lines = chance.randrange(1, 5)
            self.compare(lines, 3, (chance.randrange(lines), chance.choice([0, 2, 4, 9, None])), commands)

    def test_the_counts_of_all_goals_add_up(self):
        for commands, start in [
            ([("down", 20), ("right", 9), ("up", 3), ("left", 4)], 30), ([("right", 60), ("down", 39)], 0),
            ([("down", 39), ("left", 1), ("up", 38), ("left", 1)], None), ([("down", 5), ("end",)], 3),
            ([("home",), ("right", 3)] * 2, 70), ([], 70), ([("down", 39)], None),
        ]:
            counts = [count_texts(40, 50, (0, start), commands, goal) for goal in [None] + list(range(80))]
            self.assertTrue(all(count >= 0 for count in counts))
            self.assertEqual(sum(counts), 51 ** 40)

    def test_forty_lines_and_lengths_of_thirty_digits(self):
        every = 10 ** 30
        for cursor, commands, goal, expected in [
            ((0, 5), [], 5, every ** 40), ((0, 5), [], 4, 0), ((0, 5), [], None, 0),
            ((39, None), [("up", 39)], None, every ** 40), ((39, None), [("up", 39)], HUGE, 0),
            ((0, 5), [("end",)], None, every ** 40), ((0, 5), [("end",)], 0, 0),
            ((0, 5), [("home",)], 0, every ** 40), ((0, 5), [("home",)], 1, 0), ((0, 5), [("home",)], None, 0),
            ((0, 5), [("right", 3)], 8, every ** 39 * (every - 8)), ((0, 5), [("right", 3)], 7, every ** 39),
            ((0, 5), [("right", 3)], 9, 0), ((0, 5), [("right", 3)], 0, every ** 39),
            ((0, None), [("right", 3)], HUGE, every ** 39), ((0, None), [("right", 3)], HUGE + 1, 0),
            ((0, None), [("right", 3)], None, 0), ((0, None), [("left", 1)], 0, 2 * every ** 39),
            ((0, None), [("left", HUGE)], 0, every ** 40), ((0, None), [("left", HUGE - 1)], 1, every ** 39),
            ((0, None), [("left", HUGE - 1)], 0, every ** 40 - every ** 39),
            ((0, 9), [("left", 2), ("down", 39), ("left", 3)], 4, every ** 38 * (every - 9) * (every - 7)),
            ((0, 9), [("left", 2), ("down", 39), ("left", 3)], 0,
             every ** 40 - every ** 38 * (every - 6) * (every - 4)),
            ((0, 0), [("right", HUGE), ("down", 20), ("right", 1)], HUGE, every ** 38 * 2),
            ((20, 4), [("down", 20)], 4, 0), ((20, 4), [("down", 19)], 4, every ** 40),
        ]:
            with self.subTest(cursor=cursor, commands=commands, goal=goal):
                self.assertEqual(count_texts(40, HUGE, cursor, commands, goal), expected)

    def test_goals_and_starts_beyond_all_lines(self):
        for start in (5, 6, 7, HUGE):
            self.assertEqual(count_texts(1, 5, (0, start), [], start), 6)
            self.assertEqual(count_texts(1, 5, (0, start), [], start + 1), 0)
            self.assertEqual(count_texts(1, 5, (0, start), [], None), 0)
            self.assertEqual(count_texts(1, 5, (0, start), [("right", 1)], 5), 1)
            self.assertEqual(count_texts(1, 5, (0, start), [("right", HUGE)], HUGE), 0)
        self.assertEqual(count_texts(1, 5, (0, None), [], 6), 0)
        self.assertEqual(count_texts(1, 5, (0, None), [], None), 6)

    def test_impossible_commands(self):
        for row, commands in [
            (0, [("up", 1)]), (1, [("down", 1)]), (0, [("down", 2)]), (0, [("down", 1), ("up", 2), ("down", 1)]),
            (1, [("up", 1), ("down", 2), ("up", 1)]), (0, [("down", HUGE), ("up", HUGE)]), (1, [("up", HUGE), ("end",)]),
        ]:
            for goal in (0, 1, 3, HUGE, None):
                self.assertEqual(count_texts(2, 4, (row, 1), commands, goal), 0)

    def test_texts_of_one_line_of_length_0(self):
        for commands, end in [([], 3), ([("left", 1)], 0), ([("right", 1)], 0), ([("home",)], 0), ([("end",)], None)]:
            for goal in (0, 1, 3, None):
                self.assertEqual(count_texts(1, 0, (0, 3), commands, goal), 1 if goal == end else 0)

    def test_the_result_is_an_integer_that_may_be_passed_on(self):
        many = count_texts(40, HUGE, (0, 0), [], 0)
        self.assertIs(type(many), int)
        self.assertEqual(count_texts(1, many, (0, many), [("left", 1)], many - 1), 1)
        self.assertIs(type(count_texts(1, 4, (0, 0), [("down", 1)], 0)), int)


class ErrorsTest(unittest.TestCase):

    def test_numbers_of_lines(self):
        for lines in (0, -1, -HUGE):
            for cursor in [(0, 0), (-1, 0), (3, -1)]:
                assert_raises(self, "InvalidNumber", lines, count_texts, lines, 4, cursor, [], 0)
        self.assertEqual(count_texts(1, 4, (0, 0), [], 0), 5)

    def test_longest_lengths(self):
        for longest in (-1, -2, -HUGE):
            assert_raises(self, "InvalidNumber", longest, count_texts, 2, longest, (0, 0), [], 0)
        self.assertEqual(count_texts(2, 0, (0, 0), [], 0), 1)

    def test_cursors(self):
        for lines, cursor in [
            (1, (1, 0)), (1, (-1, 0)), (2, (2, None)), (2, (-1, None)), (40, (40, 3)), (2, (HUGE, 0)),
            (2, (1, -1)), (2, (0, -HUGE)), (2, (2, -1)),
        ]:
            assert_raises(self, "InvalidCursor", cursor, count_texts, lines, 4, cursor, [], 0)
            assert_raises(self, "InvalidCursor", cursor, count_texts, lines, 4, cursor, [("up", 9)], None)
        self.assertEqual(count_texts(40, 0, (39, 7), [], 7), 1)

    def test_each_way_to_be_no_command(self):
        for wrong in NO_COMMANDS:
            for before in [[], [("right", 1)], [("down", 9), ("end",)]]:
                for goal in [0, None, -1]:
                    assert_raises(self, "InvalidCommand", len(before), count_texts, 2, 4, (0, 0), before + [wrong, ()], goal)

    def test_goals(self):
        for goal in (-1, -2, -HUGE):
            for commands in [[], [("end",)], [("up", 1)], [("down", HUGE)]]:
                assert_raises(self, "InvalidNumber", goal, count_texts, 2, 4, (0, 0), commands, goal)

    def test_the_error_that_is_due_first(self):
        wrong = [("up", 1), ("up", 0)]
        assert_raises(self, "InvalidNumber", 0, count_texts, 0, -1, (5, -1), wrong, -2)
        assert_raises(self, "InvalidNumber", -1, count_texts, 1, -1, (5, -1), wrong, -2)
        assert_raises(self, "InvalidCursor", (5, -1), count_texts, 1, 0, (5, -1), wrong, -2)
        assert_raises(self, "InvalidCommand", 1, count_texts, 1, 0, (0, 1), wrong, -2)
        assert_raises(self, "InvalidNumber", -2, count_texts, 1, 0, (0, 1), wrong[:1], -2)


if __name__ == "__main__":
    unittest.main()
