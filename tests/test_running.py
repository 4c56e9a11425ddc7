"""Points 4 to 7 and the section goalcolumn/running.py."""

import itertools
import random
import unittest

from goalcolumn.running import column, places, reach, run
from tests.helper import HUGE, NO_COMMANDS, SMALL_COMMANDS
from tests.helper import assert_example, assert_raises, lists_up_to, slow_run, starts_up_to

EXAMPLES = [
    """
>>> from goalcolumn.running import column, run
>>> text = [5, 2, 9]
>>> [run(text, (0, 4), [('down', 2)]), run(text, (0, 4), [('down', 1), ('right', 1), ('down', 1)]), column(text, (1, 4))]
[(2, 4), (2, 2), 2]
""",
    """
>>> from goalcolumn.running import run
>>> run([5, 2], (1, None), [('left', 1), ('down', 1)])
raises Impossible(1)
""",
    """
>>> from goalcolumn.running import places, reach
>>> [list(places([5, 2], (0, 4), [('down', 1), ('left', 1)])), reach([('up', 2), ('end',), ('down', 5)])]
[[(0, 4), (1, 4), (1, 1)], (-2, 3, 3)]
""",
]


def all_places(text, cursor, commands):
    """The cursors that places yields, as a list."""
    return list(places(text, cursor, commands))


class ExamplesTest(unittest.TestCase):

    def test_examples(self):
        for example in EXAMPLES:
            with self.subTest(example=example):
                assert_example(self, example)


class ColumnTest(unittest.TestCase):

    def test_goal_within_at_the_end_beyond_and_none(self):
        text = [5, 0, HUGE]
        for cursor, shown in [
            ((0, 0), 0), ((0, 4), 4), ((0, 5), 5), ((0, 6), 5), ((0, HUGE), 5), ((0, None), 5),
            ((1, 0), 0), ((1, 1), 0), ((1, None), 0),
            ((2, 0), 0), ((2, HUGE - 1), HUGE - 1), ((2, HUGE), HUGE),
            ((2, HUGE + 5), HUGE), ((2, None), HUGE),
        ]:
            with self.subTest(cursor=cursor):
                self.assertEqual(column(text, cursor), shown)

    def test_texts_of_one_and_of_forty_lines(self):
        self.assertEqual(column([3], (0, 9)), 3)
        self.assertEqual(column([0], (0, None)), 0)
        text = list(range(40))
        self.assertEqual([column(text, (row, 7)) for row in range(40)], [min(row, 7) for row in range(40)])
        self.assertEqual([column(text, (row, None)) for row in range(40)], text)

    def test_the_result_is_an_integer(self):
        for cursor in [(0, 2), (0, 9), (0, None)]:
            self.assertIs(type(column([5], cursor)), int)


class RunTest(unittest.TestCase):

    def test_the_empty_list(self):
        for cursor in [(0, 0), (0, 5), (0, 99), (0, None), (1, None), (1, 3)]:
            self.assertEqual(run([5, 0], cursor, []), cursor)
            self.assertEqual(all_places([5, 0], cursor, []), [cursor])

    def test_right(self):
        for length, goal, n, after in [
            (9, 0, 1, 1), (9, 4, 3, 7), (9, 4, 5, 9), (9, 4, 6, 9), (9, 9, 1, 9),
            (9, 12, 1, 9), (9, None, 1, 9), (9, None, HUGE, 9), (0, 0, 1, 0),
            (0, 5, 1, 0), (0, None, HUGE, 0), (HUGE, 1, HUGE - 1, HUGE),
            (HUGE, 1, HUGE - 2, HUGE - 1), (HUGE, 2, HUGE, HUGE), (2 * HUGE, 1, HUGE, HUGE + 1),
        ]:
            with self.subTest(length=length, goal=goal, n=n):
                self.assertEqual(run([length], (0, goal), [("right", n)]), (0, after))

    def test_left(self):
        for length, goal, n, after in [
            (9, 0, 1, 0), (9, 4, 3, 1), (9, 4, 4, 0), (9, 4, 5, 0), (9, 9, 1, 8),
            (9, 12, 1, 8), (9, None, 1, 8), (9, None, HUGE, 0), (0, 0, 1, 0),
            (0, 5, 1, 0), (0, None, 2, 0), (HUGE, None, 1, HUGE - 1),
            (HUGE, HUGE, HUGE - 1, 1), (HUGE, None, HUGE, 0), (5, HUGE, HUGE, 0),
        ]:
            with self.subTest(length=length, goal=goal, n=n):
                self.assertEqual(run([length], (0, goal), [("left", n)]), (0, after))

    def test_home_and_end(self):
        for goal in [0, 3, 5, 8, HUGE, None]:
            for length in [0, 5, HUGE]:
                self.assertEqual(run([length], (0, goal), [("home",)]), (0, 0))
                self.assertEqual(run([length], (0, goal), [("end",)]), (0, None))

    def test_down_and_up_keep_the_goal(self):
        text = [7, 0, 3, 9]
        for goal in [0, 2, 5, HUGE, None]:
            self.assertEqual(run(text, (0, goal), [("down", 2)]), (2, goal))
            self.assertEqual(run(text, (3, goal), [("up", 2)]), (1, goal))

    def test_down_and_up_that_just_stay_and_just_leave(self):
        text = [1] * 40
        for row in [0, 1, 20, 38, 39]:
            for n in range(1, 42):
                down, up = [("home",), ("down", n)], [("end",), ("up", n)]
                if row + n < 40:
                    self.assertEqual(run(text, (row, 3), down), (row + n, 0))
                else:
                    assert_raises(self, "Impossible", 1, run, text, (row, 3), down)
                if row - n >= 0:
                    self.assertEqual(run(text, (row, 3), up), (row - n, None))
                else:
                    assert_raises(self, "Impossible", 1, run, text, (row, 3), up)

    def test_huge_moves_are_impossible(self):
        for name in ["down", "up"]:
            for text in [[4], [4] * 40]:
                for function in [run, all_places]:
                    assert_raises(self, "Impossible", 0, function, text, (0, 1), [(name, HUGE)])

    def test_a_goal_comes_back_on_a_longer_line(self):
        text = [20, 0, 3, 20]
        self.assertEqual(all_places(text, (0, 15), [("down", 1), ("down", 1), ("down", 1), ("left", 1)]),
                         [(0, 15), (1, 15), (2, 15), (3, 15), (3, 14)])
        self.assertEqual(run(text, (0, None), [("down", 2), ("left", 1), ("down", 1)]), (3, 2))

    def test_a_line_that_is_only_passed_does_not_matter(self):
        self.assertEqual(run([9, 0, 9], (0, 6), [("down", 2), ("right", 1)]), (2, 7))

    def test_all_short_lists_on_small_texts(self):
        starts = list(starts_up_to(3, 2, [0, 1, 2, 3, None]))
        for commands in lists_up_to(2):
            for text, cursor in starts:
                self.compare(text, cursor, commands)

    def test_lists_of_twenty_commands_and_more(self):
        chance = random.Random(20)
        for many in [20] * 300 + [2000] * 3:
            rows = chance.choice([1, 2, 5, 40])
            text = [chance.randrange(12) for _ in range(rows)]
            commands = []
            row = first = chance.randrange(rows)
            while len(commands) < many:
                command = chance.choice(SMALL_COMMANDS)
                after = row + {"down": 1, "up": -1}.get(command[0], 0)
                if 0 <= after < rows:
                    row = after
                    commands.append(command)
            self.compare(text, (first, chance.choice([0, 3, 15, None])), commands)

    def test_numbers_of_thirty_digits(self):
        text = [HUGE, 10 ** 29, HUGE]
        commands = [("right", 10 ** 29), ("down", 1), ("right", 5), ("down", 1), ("right", HUGE - 10 ** 29), ("left", 7)]
        self.assertEqual(all_places(text, (0, 3), commands), [
            (0, 3), (0, 10 ** 29 + 3), (1, 10 ** 29 + 3), (1, 10 ** 29),
            (2, 10 ** 29), (2, HUGE), (2, HUGE - 7),
        ])

    def compare(self, text, cursor, commands):
        expected = slow_run(text, cursor, commands)
        if expected[0] == "impossible":
            assert_raises(self, "Impossible", expected[1], run, text, cursor, commands)
            assert_raises(self, "Impossible", expected[1], all_places, text, cursor, commands)
            return
        self.assertEqual(run(text, cursor, commands), expected)
        found = all_places(text, cursor, commands)
        self.assertEqual(len(found), len(commands) + 1)
        if len(commands) < 50:
            self.assertEqual(found, [run(text, cursor, commands[:k]) for k in range(len(found))])
        self.assertEqual(found[-1], expected)


class PlacesTest(unittest.TestCase):

    def test_stopped_early(self):
        commands = [("down", 1), ("right", 1), ("up", 1), ("end",)]
        expected = [(0, 4), (1, 4), (1, 2), (0, 2), (0, None)]
        for many in range(6):
            found = list(itertools.islice(places([5, 2], (0, 4), commands), many))
            self.assertEqual(found, expected[:many])

    def test_arguments_may_change_after_a_stop(self):
        text, commands = [5, 2], [("down", 1), ("left", 1)]
        moving = places(text, (0, 4), commands)
        self.assertEqual(next(moving), (0, 4))
        moving.close()
        text[0] = -1
        commands.clear()
        self.assertEqual(all_places([5, 2], (0, 4), [("down", 1), ("left", 1)]), [(0, 4), (1, 4), (1, 1)])

    def test_errors_come_before_the_first_cursor(self):
        for name, value, text, cursor, commands in [
            ("InvalidText", None, [], (0, 0), []),
            ("InvalidCursor", (1, 0), [5], (1, 0), []),
            ("InvalidCommand", 1, [5], (0, 0), [("end",), ("end", 1)]),
            ("Impossible", 2, [5, 5], (0, 0), [("right", 1), ("down", 1), ("down", 1)]),
        ]:
            assert_raises(self, name, value, lambda: next(places(text, cursor, commands)))

    def test_two_at_once(self):
        commands = [("right", 1), ("right", 1)]
        self.assertEqual(list(zip(places([5], (0, 0), commands), places([5], (0, 3), commands))),
                         [((0, 0), (0, 3)), ((0, 1), (0, 4)), ((0, 2), (0, 5))])


class ReachTest(unittest.TestCase):

    def test_the_start_is_included(self):
        for commands, expected in [
            ([], (0, 0, 0)),
            ([("right", 3), ("left", HUGE), ("home",), ("end",)], (0, 0, 0)),
            ([("down", 1)], (0, 1, 1)), ([("up", 1)], (-1, 0, -1)),
            ([("down", HUGE)], (0, HUGE, HUGE)), ([("up", HUGE)], (-HUGE, 0, -HUGE)),
            ([("up", 3), ("down", 1)], (-3, 0, -2)), ([("down", 3), ("up", 1)], (0, 3, 2)),
        ]:
            self.assertEqual(reach(commands), expected)

    def test_least_greatest_and_last_all_different(self):
        commands = [("down", 4), ("end",), ("up", 9), ("left", 2), ("down", 2)]
        self.assertEqual(reach(commands), (-5, 4, -3))
        commands = [("up", 10 ** 29), ("down", HUGE), ("up", 7)]
        self.assertEqual(reach(commands), (-10 ** 29, HUGE - 10 ** 29, HUGE - 10 ** 29 - 7))

    def test_long_lists(self):
        commands = [("down", 1), ("right", 2)] * 5000 + [("up", 3)] * 4000
        self.assertEqual(reach(commands), (-7000, 5000, -7000))

    def test_it_tells_exactly_when_a_list_is_possible(self):
        for commands in lists_up_to(3, [("down", 1), ("up", 1), ("down", 2), ("up", 2), ("right", 1)]):
            least, greatest, last = reach(commands)
            for lines in range(1, 6):
                for row in range(lines):
                    after = slow_run([2] * lines, (row, 1), commands)
                    possible = row + least >= 0 and row + greatest < lines
                    self.assertEqual(after[0] != "impossible", possible)
                    if possible:
                        self.assertEqual(after[0], row + last)


class TextAndCursorErrorsTest(unittest.TestCase):

    functions = [
        lambda text, cursor: column(text, cursor),
        lambda text, cursor: run(text, cursor, []),
        lambda text, cursor: run(text, cursor, [("home",)]),
        lambda text, cursor: all_places(text, cursor, [("end",)]),
    ]

    def assert_all_raise(self, name, value, text, cursor):
        for function in self.functions:
            with self.subTest(text=text, cursor=cursor):
                assert_raises(self, name, value, function, text, cursor)

    def test_no_lines(self):
        self.assert_all_raise("InvalidText", None, [], (0, 0))
        self.assert_all_raise("InvalidText", None, [], (7, -1))

    def test_the_first_negative_length(self):
        for text, index in [
            ([-1], 0), ([3, -1], 1), ([-1, -2], 0), ([0, 0, -HUGE, 4, -1], 2), ([0] * 39 + [-1], 39),
        ]:
            self.assert_all_raise("InvalidText", index, text, (0, 0))

    def test_rows_that_are_no_line_and_negative_goals(self):
        for text, cursor in [
            ([5], (1, 0)), ([5], (-1, 0)), ([5], (1, None)), ([5], (-1, None)), ([5], (HUGE, 3)),
            ([5], (-HUGE, 3)), ([1] * 40, (40, 0)), ([1] * 40, (-1, 0)), ([1] * 40, (-40, 0)),
            ([5], (0, -1)), ([5, 5], (1, -HUGE)), ([0], (0, -1)), ([5], (1, -1)), ([5], (-1, -1)),
        ]:
            self.assert_all_raise("InvalidCursor", cursor, text, cursor)

    def test_the_least_and_the_last_row_are_lines(self):
        self.assertEqual(column([1] * 40, (39, 0)), 0)
        self.assertEqual(run([1] * 40, (39, 5), []), (39, 5))

    def test_the_text_is_checked_before_the_cursor(self):
        self.assert_all_raise("InvalidText", 1, [5, -1], (2, 0))
        self.assert_all_raise("InvalidText", 1, [5, -1], (0, -3))


class CommandErrorsTest(unittest.TestCase):

    def test_each_way_to_be_no_command(self):
        for wrong in NO_COMMANDS:
            for before in [[], [("right", 1)], [("down", 1), ("end",), ("up", 1)]]:
                for behind in [[], [("left",)], [("home",)]]:
                    commands = before + [wrong] + behind
                    with self.subTest(commands=commands):
                        for function in [run, all_places]:
                            assert_raises(self, "InvalidCommand", len(before), function, [5, 5], (0, 1), commands)
                        assert_raises(self, "InvalidCommand", len(before), reach, commands)

    def test_what_is_a_command(self):
        for command, after in [
            (("down", 1), (2, 3)), (("up", 1), (0, 3)), (("right", 1), (1, 4)), (("right", HUGE), (1, 5)),
            (("left", 1), (1, 2)), (("left", HUGE), (1, 0)), (("home",), (1, 0)), (("end",), (1, None)),
        ]:
            self.assertEqual(run([5, 5, 5], (1, 3), [command]), after)

    def test_the_first_impossible_command_is_told(self):
        commands = [("down", 1), ("right", 1), ("up", 2), ("down", 9), ("down", 9)]
        for function in [run, all_places]:
            assert_raises(self, "Impossible", 2, function, [5, 5], (0, 0), commands)

    def test_an_impossible_command_behind_which_all_would_be_possible(self):
        for function in [run, all_places]:
            assert_raises(self, "Impossible", 0, function, [5, 5], (0, 0), [("up", 1), ("down", 1)])
            assert_raises(self, "Impossible", 0, function, [5, 5], (1, 0), [("down", 1), ("up", 1)])

    def test_an_invalid_command_behind_an_impossible_one_is_told_first(self):
        for wrong in NO_COMMANDS:
            for function in [run, all_places]:
                assert_raises(self, "InvalidCommand", 2, function, [5], (0, 0), [("up", 1), ("home",), wrong])

    def test_the_error_that_is_due_first(self):
        wrong = [("down", 9), ("down", 0)]
        for function in [run, all_places]:
            assert_raises(self, "InvalidText", None, function, [], (0, -1), wrong)
            assert_raises(self, "InvalidText", 0, function, [-1], (3, -1), wrong)
            assert_raises(self, "InvalidText", 0, function, [-1], (0, 0), wrong)
            assert_raises(self, "InvalidCursor", (3, 0), function, [1], (3, 0), wrong)
            assert_raises(self, "InvalidCursor", (0, -1), function, [1], (0, -1), [("down", 9)])
            assert_raises(self, "InvalidCommand", 1, function, [1], (0, 0), wrong)
            assert_raises(self, "Impossible", 0, function, [1], (0, 0), wrong[:1])


if __name__ == "__main__":
    unittest.main()
