"""Point 2: names, arguments by position or by name, nothing modified, new lists."""

import copy
import importlib
import inspect
import unittest

from goalcolumn.boxes import box, least_text
from goalcolumn.counting import count_texts
from goalcolumn.editors import Editor
from goalcolumn.forms import form, parting, same_effect
from goalcolumn.learning import Box, learn
from goalcolumn.origins import origins
from goalcolumn.readings import read_commands
from goalcolumn.repeating import repeat
from goalcolumn.running import column, places, reach, run
from goalcolumn.texts import show_commands
from tests.helper import assert_raises

FUNCTIONS = {
    "running": {
        "column": ["text", "cursor"],
        "run": ["text", "cursor", "commands"],
        "places": ["text", "cursor", "commands"],
        "reach": ["commands"],
    },
    "boxes": {
        "box": ["commands", "goal"],
        "least_text": ["commands", "goal"],
    },
    "forms": {
        "form": ["commands"],
        "same_effect": ["first", "second"],
        "parting": ["first", "second"],
    },
    "repeating": {
        "repeat": ["text", "cursor", "commands", "times"],
    },
    "origins": {
        "origins": ["text", "row", "commands", "goal"],
    },
    "counting": {
        "count_texts": ["lines", "longest", "cursor", "commands", "goal"],
    },
    "learning": {
        "learn": ["box", "rows", "size"],
    },
    "texts": {
        "show_commands": ["commands"],
    },
    "readings": {
        "read_commands": ["text"],
    },
}
CLASSES = {
    "learning": ("Box", ["commands"], {"answer": ["self", "text", "cursor"]}, ["questions"]),
    "editors": ("Editor", ["text", "cursor"], {"press": ["self", "commands"], "undo": ["self"], "trail": ["self"]},
                ["text", "cursor", "column"]),
}
COMMANDS = [("down", 1), ("left", 1), ("up", 1), ("right", 2), ("left", 1)]


class InterfaceTest(unittest.TestCase):

    def test_names_and_parameters(self):
        for file, functions in FUNCTIONS.items():
            module = importlib.import_module("goalcolumn." + file)
            for name, parameters in functions.items():
                function = getattr(module, name)
                self.assertEqual(function.__module__, "goalcolumn." + file)
                self.assertEqual(list(inspect.signature(function).parameters), parameters)

    def test_classes_and_methods(self):
        for file, (name, parameters, methods, properties) in CLASSES.items():
            kind = getattr(importlib.import_module("goalcolumn." + file), name)
            self.assertEqual(kind.__module__, "goalcolumn." + file)
            self.assertEqual(list(inspect.signature(kind).parameters), parameters)
            for method, names in methods.items():
                self.assertEqual(list(inspect.signature(vars(kind)[method]).parameters), names)
            for item in properties:
                self.assertIs(type(vars(kind)[item]), property)
        self.assertIs(type(vars(Editor)["at_top"]), classmethod)
        self.assertEqual(list(inspect.signature(Editor.at_top).parameters), ["text"])
        self.assertIn("__eq__", vars(Editor))

    def test_arguments_by_name_in_any_order(self):
        text, cursor = [5, 2, 9], (1, 4)
        self.assertEqual(column(cursor=cursor, text=text), column(text, cursor))
        self.assertEqual(run(commands=COMMANDS, cursor=cursor, text=text), run(text, cursor, COMMANDS))
        self.assertEqual(list(places(cursor=cursor, commands=COMMANDS, text=text)),
                         list(places(text, cursor, COMMANDS)))
        self.assertEqual(reach(commands=COMMANDS), reach(COMMANDS))
        self.assertEqual(box(goal=2, commands=COMMANDS), box(COMMANDS, 2))
        self.assertEqual(least_text(goal=2, commands=COMMANDS), least_text(COMMANDS, 2))
        self.assertEqual(form(commands=COMMANDS), form(COMMANDS))
        self.assertIs(same_effect(second=[("right", 2), ("left", 1)], first=COMMANDS), False)
        self.assertEqual(parting(second=[], first=[("down", 1)]), parting([("down", 1)], []))
        self.assertEqual(repeat(times=3, cursor=(0, 4), commands=COMMANDS, text=text), repeat(text, (0, 4), COMMANDS, 3))
        self.assertEqual(origins(goal=2, commands=COMMANDS, row=1, text=text), origins(text, 1, COMMANDS, 2))
        self.assertEqual(count_texts(goal=2, commands=COMMANDS, cursor=cursor, longest=4, lines=3),
                         count_texts(3, 4, cursor, COMMANDS, 2))
        self.assertEqual(learn(size=9, rows=1, box=Box(commands=COMMANDS)), form(COMMANDS))
        self.assertEqual(Box(COMMANDS).answer(cursor=(0, 4), text=text), run(text, (0, 4), COMMANDS))
        self.assertEqual(Editor(cursor=cursor, text=text), Editor(text, cursor))
        self.assertEqual(Editor.at_top(text=text), Editor(text, (0, 0)))
        self.assertEqual(read_commands(text=show_commands(commands=COMMANDS)), COMMANDS)
        assert_raises(self, "InvalidCommand", 0, same_effect, second=[("right", 0)], first=[])
        assert_raises(self, "InvalidNumber", 0, count_texts, goal=0, commands=[], cursor=(0, 0), longest=1, lines=0)

    def test_arguments_stay_unchanged(self):
        for text, commands, goal in [
            ([5, 2, 9], COMMANDS, 2), ([5, 2, -9], COMMANDS, 0), ([5, 2], [("down", 1), ("down", 0)], 3),
            ([5, 2], [("down", 5), ("end",)], 3), ([], [("home",), ("right", 1)], 2),
        ]:
            old_text, old_commands = copy.deepcopy(text), copy.deepcopy(commands)
            for call in [
                lambda: column(text, (1, 4)), lambda: run(text, (1, 4), commands),
                lambda: list(places(text, (1, 4), commands)), lambda: reach(commands),
                lambda: box(commands, goal), lambda: least_text(commands, goal), lambda: form(commands),
                lambda: same_effect(commands, COMMANDS), lambda: same_effect([], commands),
                lambda: parting(commands, COMMANDS), lambda: parting([], commands), lambda: parting(commands, commands),
                lambda: repeat(text, (1, 4), commands, goal), lambda: repeat(text, (0, None), commands, 10 ** 29),
                lambda: origins(text, 1, commands, goal), lambda: count_texts(3, 9, (1, 4), commands, goal),
                lambda: Box(commands).answer(text, (1, 4)), lambda: Box(COMMANDS).answer(text, (0, None)),
                lambda: learn(Box(commands), 5, 9), lambda: show_commands(commands),
                lambda: Editor(text, (0, 4)).press(*commands), lambda: Editor.at_top(text).press(*COMMANDS),
            ]:
                try:
                    call()
                except ValueError:
                    pass
                self.assertEqual((text, commands), (old_text, old_commands))
            self.assertEqual(COMMANDS, [("down", 1), ("left", 1), ("up", 1), ("right", 2), ("left", 1)])

    def test_returned_lists_are_new(self):
        first = box(COMMANDS, 2)
        first[1].clear()
        second = box(COMMANDS, 2)
        self.assertEqual(second, (2, [(0, 3), (1, 2)]))
        self.assertIsNot(first[1], second[1])
        first = least_text(COMMANDS, 2)
        first[0].append(7)
        second = least_text(COMMANDS, 2)
        self.assertEqual(second, ([3, 2], (0, 2)))
        self.assertIsNot(first[0], second[0])
        self.assertIsNot(box([], 1)[1], box([], 1)[1])

    def test_returned_forms_and_partings_are_new(self):
        expected = ((0, 0, 0), [(1, None, [(0, 0)]), (4, -3, [(0, 0)])])
        first = form([("right", 3)])
        self.assertEqual(first, expected)
        # No two pieces share a list either.
        first[1][0][2].clear()
        self.assertEqual(first[1][1][2], [(0, 0)])
        first[1].clear()
        self.assertEqual(form([("right", 3)]), expected)
        for one, other in [([("down", 1)], []), ([("left", 2)], [("left", 1)]), ([("down", 1)], [("down", 2), ("up", 1)])]:
            text, cursor = parting(one, other)
            old = list(text)
            text.append(7)
            self.assertEqual(parting(one, other), (old, cursor))

    def test_no_reference_to_arguments_is_kept(self):
        text, commands = [5, 2], [("down", 1), ("left", 1)]
        found, smallest, spanned = box(commands, 2), least_text(commands, 2), reach(commands)
        after = run(text, (0, 4), commands)
        formed, again = form(commands), repeat(text, (0, 4), commands, 1)
        parted = parting(commands, [("down", 1)])
        text[1] = 0
        commands[0] = ("home",)
        self.assertEqual(found, (3, [(1, 3)]))
        self.assertEqual(smallest, ([0, 3], (0, 3)))
        self.assertEqual((spanned, after), ((0, 1, 1), (1, 1)))
        self.assertEqual((formed, again), (((0, 1, 1), [(1, 1, [(1, 1)])]), (1, 1)))
        self.assertEqual(parted, parting([("down", 1), ("left", 1)], [("down", 1)]))

    def test_kinds_of_values(self):
        self.assertIs(type(run([5], (0, 2), [])), tuple)
        self.assertIs(type(run([5], (0, 2), [("end",)])), tuple)
        self.assertIs(type(reach([])), tuple)
        self.assertTrue(all(type(place) is tuple for place in places([5], (0, 2), [("end",), ("left", 1)])))
        text, cursor = least_text([], 1)
        self.assertEqual((type(text), type(cursor)), (list, tuple))
        self.assertIs(type(origins([5], 0, [], 2)), tuple)
        self.assertIs(type(repeat([5], (0, 2), [("left", 1)], 3)), tuple)
        self.assertIs(type(same_effect([], [])), bool)


if __name__ == "__main__":
    unittest.main()
