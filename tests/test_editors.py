"""Points 2, 3, 5, 6 and the section goalcolumn/editors.py."""

import random
import unittest
from unittest import mock

from goalcolumn.editors import Editor
from goalcolumn.running import column, places, run
from tests.helper import HUGE, NO_COMMANDS, SMALL_COMMANDS
from tests.helper import assert_example, assert_raises, digits_number, lists_up_to, slow_run, starts_up_to

EXAMPLES = [
    """
>>> from goalcolumn.editors import Editor
>>> editor = Editor.at_top([5, 2])
>>> editor.press(('right', 4), ('down', 1), ('left', 1))
>>> editor.undo()
>>> [editor.cursor, editor.column, list(editor.trail())]
[(1, 4), 2, [(0, 0), (0, 4), (1, 4)]]
""",
]
NAMES = ["down", "up", "right", "left", "home", "end"]


def random_command(chance, number):
    """A command, most of them left and right."""
    name = chance.choice(NAMES + ["right", "left"] * 2)
    return (name,) if name in ("home", "end") else (name, number(chance, name))


class ExamplesTest(unittest.TestCase):

    def test_examples(self):
        for example in EXAMPLES:
            with self.subTest(example=example):
                assert_example(self, example)


class EditorTest(unittest.TestCase):

    def assert_state(self, editor, text, passed):
        """Assert all that an editor shows: its text, its cursors, its column."""
        self.assertEqual(editor.text, text)
        self.assertIs(type(editor.text), list)
        self.assertEqual(repr(editor.cursor), repr(passed[-1]))
        row, goal = passed[-1]
        shown = text[row] if goal is None else min(goal, text[row])
        self.assertEqual((editor.column, type(editor.column)), (shown, int))
        self.assertEqual(editor.column, column(text, editor.cursor))
        self.assertEqual(list(editor.trail()), passed)

    def test_new_editors(self):
        for text, cursor in starts_up_to(3, 2, [0, 1, 3, None]):
            self.assert_state(Editor(text, cursor), text, [cursor])
        self.assert_state(Editor([HUGE] * 40, (39, HUGE)), [HUGE] * 40, [(39, HUGE)])

    def test_all_short_lists_at_once_and_one_by_one(self):
        for commands in lists_up_to(3):
            for text, cursor in [([2, 0, 3], (1, 2)), ([1, 4], (0, None)), ([3], (0, 0))]:
                whole, single = Editor(text, cursor), Editor(text, cursor)
                after = slow_run(text, cursor, commands)
                if after[0] == "impossible":
                    assert_raises(self, "Impossible", after[1], whole.press, *commands)
                    self.assert_state(whole, text, [cursor])
                    continue
                self.assertIsNone(whole.press(*commands))
                for command in commands:
                    self.assertIsNone(single.press(command))
                passed = list(places(text, cursor, commands))
                self.assertEqual(passed[-1], after)
                self.assert_state(whole, text, passed)
                self.assert_state(single, text, passed)
                for left in range(len(commands), 0, -1):
                    self.assertIsNone(whole.undo())
                    self.assert_state(whole, text, passed[:left])
                assert_raises(self, "NothingToUndo", 0, whole.undo)
                self.assert_state(whole, text, [cursor])

    def test_many_calls_of_all_kinds(self):
        for seed in range(60):
            self.work_on(random.Random(seed), lambda chance, name: chance.randrange(1, 4), 8)
            self.work_on(random.Random(seed), digits_number, HUGE)

    def work_on(self, chance, number, longest):
        """Compare an editor after each of some calls with slow runs."""
        text = [chance.randrange(longest + 1) for _ in range(chance.randrange(1, 41))]
        row = chance.randrange(len(text))
        passed = [(row, chance.choice([0, 1, longest, None]))]
        editor = Editor(text, passed[0])
        for _ in range(40):
            if chance.random() < 0.4:
                if len(passed) > 1:
                    self.assertIsNone(editor.undo())
                    passed.pop()
                else:
                    assert_raises(self, "NothingToUndo", 0, editor.undo)
            else:
                commands = [random_command(chance, number) for _ in range(chance.randrange(5))]
                ways = [slow_moves(text, passed[-1], commands[:many]) for many in range(len(commands) + 1)]
                if ways[-1] is None:
                    assert_raises(self, "Impossible", ways.index(None) - 1, editor.press, *commands)
                else:
                    self.assertIsNone(editor.press(*commands))
                    passed += ways[1:]
            self.assert_state(editor, text, passed)

    def test_no_command(self):
        editor = Editor([5], (0, 3))
        self.assertIsNone(editor.press())
        self.assert_state(editor, [5], [(0, 3)])
        assert_raises(self, "NothingToUndo", 0, editor.undo)
        editor.press(("left", 1))
        editor.press()
        self.assert_state(editor, [5], [(0, 3), (0, 2)])
        editor.undo()
        self.assert_state(editor, [5], [(0, 3)])

    def test_commands_without_effect_are_taken_back_one_by_one(self):
        editor = Editor([5], (0, 0))
        editor.press(("home",), ("left", 2), ("home",))
        self.assert_state(editor, [5], [(0, 0)] * 4)
        for left in (3, 2, 1):
            editor.undo()
            self.assert_state(editor, [5], [(0, 0)] * left)
        assert_raises(self, "NothingToUndo", 0, editor.undo)

    def test_undo_takes_back_commands_not_calls(self):
        editor = Editor.at_top([5, 2])
        editor.press(("right", 4), ("down", 1))
        editor.press(("left", 1))
        for cursor in [(1, 4), (0, 4), (0, 0)]:
            editor.undo()
            self.assertEqual(editor.cursor, cursor)
        for _ in range(3):
            assert_raises(self, "NothingToUndo", 0, editor.undo)
            self.assert_state(editor, [5, 2], [(0, 0)])
        editor.press(("end",))
        self.assert_state(editor, [5, 2], [(0, 0), (0, None)])

    def test_two_hundred_commands(self):
        editor = Editor([9] * 40, (0, 0))
        for _ in range(10):
            editor.press(*[("right", 1), ("down", 1), ("left", 2), ("up", 1)] * 5)
        self.assertEqual(len(list(editor.trail())), 201)
        for _ in range(89):
            editor.undo()
        self.assertEqual(len(list(editor.trail())), 112)
        editor = Editor([9] * 40, (0, 0))
        editor.press(*[("right", 1), ("left", 1)] * 2000)
        self.assertEqual((editor.cursor, len(list(editor.trail()))), ((0, 0), 4001))

    def test_a_failed_press_runs_nothing(self):
        editor = Editor([5, 2], (0, 4))
        editor.press(("left", 1))
        for commands, name, value in [
            ([("up", 1)], "Impossible", 0),
            ([("down", 1), ("end",), ("down", 1)], "Impossible", 2),
            ([("down", 1), ("down", 1), ("up", 5)], "Impossible", 1),
            ([("up", 1), ("left", 0)], "InvalidCommand", 1),
            ([("right", 1), ("up", 1), ("end",), ("home", 1), ()], "InvalidCommand", 3),
            ([()], "InvalidCommand", 0),
        ]:
            with self.subTest(commands=commands):
                assert_raises(self, name, value, editor.press, *commands)
                self.assert_state(editor, [5, 2], [(0, 4), (0, 3)])
        editor.undo()
        self.assert_state(editor, [5, 2], [(0, 4)])

    def test_each_way_to_be_no_command(self):
        for wrong in NO_COMMANDS:
            for before in [[], [("right", 1)], [("down", 9), ("end",)]]:
                editor = Editor([5, 2], (0, 4))
                assert_raises(self, "InvalidCommand", len(before), editor.press, *before, wrong, ("left",))
                self.assert_state(editor, [5, 2], [(0, 4)])


def slow_moves(text, cursor, commands):
    """The cursor after the commands, or None if they are impossible."""
    place = cursor
    for name, *numbers in commands:
        row, goal = place
        shown = text[row] if goal is None else min(goal, text[row])
        if name in ("down", "up"):
            row += numbers[0] if name == "down" else -numbers[0]
            if not 0 <= row < len(text):
                return None
        elif name == "right":
            goal = min(text[row], shown + numbers[0])
        elif name == "left":
            goal = max(0, shown - numbers[0])
        else:
            goal = 0 if name == "home" else None
        place = (row, goal)
    return place


class TrailTest(unittest.TestCase):

    def test_two_iterations_at_the_same_time(self):
        editor = Editor.at_top([5, 2])
        editor.press(("right", 4), ("down", 1), ("left", 1))
        passed = [(0, 0), (0, 4), (1, 4), (1, 1)]
        first, second = editor.trail(), editor.trail()
        self.assertEqual([next(first), next(first)], passed[:2])
        self.assertEqual([next(second), next(second), next(second)], passed[:3])
        self.assertEqual(list(first), passed[2:])
        self.assertEqual(list(second), passed[3:])
        self.assertEqual([(one, other) for one in editor.trail() for other in editor.trail()],
                         [(one, other) for one in passed for other in passed])

    def test_stopping_early(self):
        editor = Editor.at_top([5, 2])
        editor.press(("right", 4), ("down", 1))
        for cursor in editor.trail():
            break
        self.assertEqual(cursor, (0, 0))
        editor.press(("left", 1))
        self.assertEqual(list(editor.trail()), [(0, 0), (0, 4), (1, 4), (1, 1)])

    def test_lists_of_it_are_the_callers_own(self):
        editor = Editor.at_top([5])
        editor.press(("end",))
        list(editor.trail()).clear()
        self.assertEqual(list(editor.trail()), [(0, 0), (0, None)])


class EqualTest(unittest.TestCase):

    def assert_equal(self, first, second, expected):
        """Assert that == and != agree, both ways."""
        for one, other in [(first, second), (second, first)]:
            self.assertIs(one == other, expected)
            self.assertIs(one != other, not expected)

    def test_all_small_editors(self):
        starts = list(starts_up_to(2, 2, [0, 1, 3, None]))
        for first in starts:
            for second in starts:
                self.assert_equal(Editor(*first), Editor(*second), first == second)

    def test_only_the_present_cursors_count(self):
        pressed, new = Editor.at_top([5, 2]), Editor([5, 2], (1, 4))
        self.assert_equal(pressed, new, False)
        pressed.press(("right", 4), ("down", 1))
        self.assert_equal(pressed, new, True)
        self.assertEqual(list(new.trail()), [(1, 4)])
        new.press(("left", 1))
        self.assert_equal(pressed, new, False)
        new.undo()
        self.assert_equal(pressed, new, True)
        self.assert_equal(pressed, pressed, True)

    def test_goals_at_the_same_column_differ(self):
        for one, other in [(5, None), (5, 6), (6, None)]:
            first, second = Editor([5], (0, one)), Editor([5], (0, other))
            self.assertEqual(first.column, second.column)
            self.assert_equal(first, second, False)

    def test_texts_that_are_equal_lists_or_differ(self):
        self.assert_equal(Editor([5, 2], (0, 1)), Editor([5] + [2], (0, 1)), True)
        for text in [[5], [5, 3], [2, 5], [5, 2, 0]]:
            self.assert_equal(Editor([5, 2], (0, 1)), Editor(text, (0, 1)), False)

    def test_nothing_else_is_equal(self):
        editor = Editor([5, 2], (0, 1))
        for other in [None, 0, 1, "", "Editor", (0, 1), [5, 2], ([5, 2], (0, 1)), {}, Editor, object(), NotImplemented]:
            self.assert_equal(editor, other, False)
        # Even what claims to be equal to everything is not asked.
        self.assertIs(editor == mock.ANY, False)
        self.assertIs(editor != mock.ANY, True)
        alike = mock.Mock(text=[5, 2], cursor=(0, 1), _text=[5, 2], _cursors=[(0, 1)])
        self.assert_equal(editor, alike, False)

    def test_in_lists(self):
        editors = [Editor([5], (0, goal)) for goal in range(4)]
        self.assertIn(Editor([5], (0, 2)), editors)
        self.assertNotIn(Editor([5], (0, 4)), editors)
        self.assertEqual(editors.index(Editor([5], (0, 3))), 3)


class ReferencesTest(unittest.TestCase):

    def test_the_passed_text(self):
        for make in [lambda text: Editor(text, (0, 0)), Editor.at_top]:
            text = [5, 2]
            editor = make(text)
            text[0] = 1
            text.append(7)
            editor.press(("right", 4))
            self.assertEqual((editor.text, editor.cursor, editor.column), ([5, 2], (0, 4), 4))
            assert_raises(self, "Impossible", 0, editor.press, ("down", 2))
            self.assertEqual(text, [1, 2, 7])

    def test_the_returned_text(self):
        editor = Editor([5, 2], (0, 0))
        first = editor.text
        first[0] = 1
        first.append(7)
        self.assertEqual(editor.text, [5, 2])
        self.assertIsNot(editor.text, editor.text)
        editor.press(("right", 4))
        self.assertEqual(editor.column, 4)
        self.assertEqual(editor, Editor([5, 2], (0, 4)))

    def test_the_passed_commands(self):
        editor = Editor([5, 2], (0, 0))
        commands = [("right", 4), ("down", 1)]
        editor.press(*commands)
        self.assertEqual(commands, [("right", 4), ("down", 1)])
        commands[0] = ("home",)
        self.assertEqual(list(editor.trail()), [(0, 0), (0, 4), (1, 4)])

    def test_two_editors_of_one_text(self):
        text = [5, 2]
        first, second = Editor.at_top(text), Editor.at_top(text)
        first.press(("right", 4))
        self.assertEqual((first.cursor, second.cursor), ((0, 4), (0, 0)))
        self.assertEqual((list(second.trail()), text), ([(0, 0)], [5, 2]))

    def test_what_is_returned_may_be_passed_on(self):
        editor = Editor([5 * HUGE, 2], (0, None))
        editor.press(("left", HUGE), ("down", 1))
        again = Editor(editor.text, editor.cursor)
        self.assertEqual(again, editor)
        self.assertEqual(run(editor.text, editor.cursor, [("up", 1)]), (0, 4 * HUGE))
        self.assertEqual([column(editor.text, cursor) for cursor in editor.trail()], [5 * HUGE, 4 * HUGE, 2])


class ErrorsTest(unittest.TestCase):

    def test_texts(self):
        for text, value in [([], None), ([-1], 0), ([3, -1, -2], 1), ([0] * 39 + [-HUGE], 39)]:
            for cursor in [(0, 0), (0, -1), (-1, 0), (99, None)]:
                assert_raises(self, "InvalidText", value, Editor, text, cursor)
            assert_raises(self, "InvalidText", value, Editor.at_top, text)
            assert_raises(self, "InvalidText", value, Editor.at_top, text=text)

    def test_cursors(self):
        for cursor in [(1, 0), (-1, 0), (1, None), (-1, None), (0, -1), (0, -HUGE), (HUGE, 2), (2, -1)]:
            assert_raises(self, "InvalidCursor", cursor, Editor, [3], cursor)
        assert_raises(self, "InvalidCursor", (40, 0), Editor, [3] * 40, (40, 0))

    def test_at_top(self):
        for text in [[0], [5, 2], [HUGE] * 40]:
            editor = Editor.at_top(text)
            self.assertIs(type(editor), Editor)
            self.assertEqual((editor.text, editor.cursor, editor.column), (text, (0, 0), 0))
            self.assertEqual(editor, Editor(text, (0, 0)))

    def test_by_name(self):
        editor = Editor(cursor=(1, None), text=[5, 2])
        self.assertEqual((editor.text, editor.cursor), ([5, 2], (1, None)))
        self.assertEqual(Editor.at_top(text=[5, 2]), Editor([5, 2], cursor=(0, 0)))
        assert_raises(self, "InvalidCursor", (2, 0), Editor, cursor=(2, 0), text=[5, 2])

    def test_small_commands_are_commands(self):
        for command in SMALL_COMMANDS:
            editor = Editor([2, 2, 2], (1, 1))
            editor.press(command)
            self.assertEqual(editor.cursor, slow_run([2, 2, 2], (1, 1), [command]))


if __name__ == "__main__":
    unittest.main()
