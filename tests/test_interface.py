"""Point 2: names, arguments by position or by name, nothing modified, new lists."""

import copy
import importlib
import inspect
import unittest

from goalcolumn.boxes import box, least_text
from goalcolumn.running import column, places, reach, run

FUNCTIONS = {
    "running": {
        "column": ["text", "cursor"],
        "run": ["text", "cursor", "commands"],
        "places": ["text", "cursor", "commands"],
        "reach": ["commands"],
    },
    "boxes": {
        "box": ["commands", "goal"],
        "least_text": ["commands", "goal"],
    },
}
COMMANDS = [("down", 1), ("left", 1), ("up", 1), ("right", 2), ("left", 1)]


class InterfaceTest(unittest.TestCase):

    def test_names_and_parameters(self):
        for file, functions in FUNCTIONS.items():
            module = importlib.import_module("goalcolumn." + file)
            for name, parameters in functions.items():
                function = getattr(module, name)
                self.assertEqual(function.__module__, "goalcolumn." + file)
                self.assertEqual(list(inspect.signature(function).parameters), parameters)

    def test_arguments_by_name_in_any_order(self):
        text, cursor = [5, 2, 9], (1, 4)
        self.assertEqual(column(cursor=cursor, text=text), column(text, cursor))
        self.assertEqual(run(commands=COMMANDS, cursor=cursor, text=text), run(text, cursor, COMMANDS))
        self.assertEqual(list(places(cursor=cursor, commands=COMMANDS, text=text)),
                         list(places(text, cursor, COMMANDS)))
        self.assertEqual(reach(commands=COMMANDS), reach(COMMANDS))
        self.assertEqual(box(goal=2, commands=COMMANDS), box(COMMANDS, 2))
        self.assertEqual(least_text(goal=2, commands=COMMANDS), least_text(COMMANDS, 2))

    def test_arguments_stay_unchanged(self):
        for text, commands, goal in [
            ([5, 2, 9], COMMANDS, 2), ([5, 2, -9], COMMANDS, 0), ([5, 2], [("down", 1), ("down", 0)], 3),
            ([5, 2], [("down", 5), ("end",)], 3), ([], [("home",), ("right", 1)], 2),
        ]:
            old_text, old_commands = copy.deepcopy(text), copy.deepcopy(commands)
            for call in [
                lambda: column(text, (1, 4)), lambda: run(text, (1, 4), commands),
                lambda: list(places(text, (1, 4), commands)), lambda: reach(commands),
                lambda: box(commands, goal), lambda: least_text(commands, goal),
            ]:
                try:
                    call()
                except ValueError:
                    pass
                self.assertEqual((text, commands), (old_text, old_commands))

    def test_returned_lists_are_new(self):
        first = box(COMMANDS, 2)
        first[1].clear()
        second = box(COMMANDS, 2)
        self.assertEqual(second, (2, [(0, 3), (1, 2)]))
        self.assertIsNot(first[1], second[1])
        first = least_text(COMMANDS, 2)
        first[0].append(7)
        second = least_text(COMMANDS, 2)
        self.assertEqual(second, ([3, 2], (0, 2)))
        self.assertIsNot(first[0], second[0])
        self.assertIsNot(box([], 1)[1], box([], 1)[1])

    def test_no_reference_to_arguments_is_kept(self):
        text, commands = [5, 2], [("down", 1), ("left", 1)]
        found, smallest, spanned = box(commands, 2), least_text(commands, 2), reach(commands)
        after = run(text, (0, 4), commands)
        text[1] = 0
        commands[0] = ("home",)
        self.assertEqual(found, (3, [(1, 3)]))
        self.assertEqual(smallest, ([0, 3], (0, 3)))
        self.assertEqual((spanned, after), ((0, 1, 1), (1, 1)))

    def test_kinds_of_values(self):
        self.assertIs(type(run([5], (0, 2), [])), tuple)
        self.assertIs(type(run([5], (0, 2), [("end",)])), tuple)
        self.assertIs(type(reach([])), tuple)
        self.assertTrue(all(type(place) is tuple for place in places([5], (0, 2), [("end",), ("left", 1)])))
        text, cursor = least_text([], 1)
        self.assertEqual((type(text), type(cursor)), (list, tuple))


if __name__ == "__main__":
    unittest.main()
