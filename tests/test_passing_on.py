"""Point 2 over the whole program: what a function returns may be passed on whatever its size."""

import random
import unittest

from goalcolumn.boxes import box
from goalcolumn.counting import count_texts
from goalcolumn.editors import Editor
from goalcolumn.forms import form, parting, same_effect
from goalcolumn.learning import Box
from goalcolumn.origins import origins
from goalcolumn.readings import read_commands
from goalcolumn.repeating import repeat
from goalcolumn.running import places, reach, run
from goalcolumn.texts import show_commands
from tests.helper import assert_raises, at_least, slow_run

FORTY = int("9" * 40)


def read_words(chance, words):
    """The list that is read from a text of nearly 4000 characters of such words."""
    found = []
    while sum(map(len, found)) + len(found) < 3950:
        found.append(chance.choice(words))
    return read_commands(" ".join(found))


def kept_within(commands, rows):
    """The commands without the moves that leave so many rows; the last row is the first one."""
    kept, place = [], 0
    for command in commands:
        change = {"down": 1, "up": -1}.get(command[0], 0) * command[-1] if len(command) == 2 else 0
        if 0 <= place + change < rows:
            place += change
            kept.append(command)
    return kept + ([("up", place)] if place else [])


class ListsThatAreReadTest(unittest.TestCase):

    def setUp(self):
        chance = random.Random(25)
        self.chance = chance
        self.text = [chance.randrange(30) for _ in range(40)]
        self.lists = [
            kept_within(read_words(chance, ["1D", "1U", "2R", "1L", "3L", "4R"]), 40),
            kept_within(read_words(chance, ["1D", "2U", "7D", "3U", "9R", "8L"]), 40),
            kept_within(read_words(chance, ["5R", "1L", "6L", "1R"]), 40),
            kept_within(read_words(chance, ["1D", "1U", "2R", "1L"] * 50 + ["H", "E"]), 40),
        ]

    def test_showing(self):
        for commands in self.lists:
            self.assertGreater(len(commands), 900)
            self.assertEqual(read_commands(show_commands(commands)), commands)

    def test_running(self):
        for commands in self.lists:
            for goal in (0, 9, None):
                after = slow_run(self.text, (0, goal), commands)
                self.assertEqual(run(self.text, (0, goal), commands), after)
                passed = list(places(self.text, (0, goal), commands))
                self.assertEqual((len(passed), passed[-1]), (len(commands) + 1, after))
                self.assertEqual(Box(commands).answer(self.text, (0, goal)), after)
                editor = Editor(self.text, (0, goal))
                editor.press(*commands)
                self.assertEqual((editor.cursor, list(editor.trail())), (after, passed))
            rows = [row for row, _ in passed]
            self.assertEqual(reach(commands), (min(rows), max(rows), 0))
            self.assertIsNone(Box(commands + [("up", 1)]).answer(self.text, (0, 0)))

    def test_boxes_and_forms(self):
        for commands in self.lists:
            ends = {goal: run(self.text, (0, goal), commands)[1] for goal in (0, 5, 12, None)}
            for least in range(1, 30):
                found = box(commands, least)
                for goal, end in ends.items():
                    holds = found is not None and (found[0] is None or at_least(goal, found[0])) and all(
                        self.text[at] >= bound for at, bound in found[1])
                    self.assertEqual(holds, at_least(end, least))
            spanned, pieces = form(commands)
            self.assertEqual(spanned, reach(commands))
            for first, start, lines in pieces:
                self.assertEqual(box(commands, first), None if lines is None else (
                    None if start is None else first + start, [(at, first + constant) for at, constant in lines]))

    def test_pairs(self):
        for commands in self.lists:
            self.assertIs(same_effect(commands, list(commands)), True)
            self.assertIsNone(parting(commands, list(commands)))
            for other in self.lists + [commands + [("left", 1)], commands[1:]]:
                self.assertEqual(same_effect(commands, other), form(commands) == form(other))
                found = parting(commands, other)
                self.assertEqual(found is None, same_effect(commands, other))
                if found is not None:
                    self.assertNotEqual(Box(commands).answer(*found), Box(other).answer(*found))

    def test_repeating(self):
        for commands in self.lists:
            place = (0, 7)
            for times in range(1, 4):
                place = run(self.text, place, commands)
                self.assertEqual(repeat(self.text, (0, 7), commands, times), place)
            for _ in range(400):
                place = run(self.text, place, commands)
            self.assertEqual(repeat(self.text, (0, 7), commands, 403), place)
        commands = read_words(self.chance, ["1D", "5R", "1L"])
        after = slow_run(self.text, (0, 0), commands)
        assert_raises(self, "Impossible", after[1], repeat, self.text, (0, 0), commands, FORTY)

    def test_origins(self):
        for commands in self.lists:
            ends = [run(self.text, (0, goal), commands)[1] for goal in range(200)]
            for end in set(ends):
                low, high = origins(self.text, 0, commands, end)
                self.assertEqual(low, ends.index(end))
                self.assertTrue(high is None or ends[high] == end != ends[high + 1])

    def test_counting(self):
        for commands in self.lists:
            _, greatest, _ = reach(commands)
            counts = [count_texts(40, 3, (0, 2), commands, goal) for goal in [None] + list(range(40))]
            self.assertEqual(sum(counts), 4 ** 40 if greatest < 40 else 0)
        commands = [command for command in self.lists[2] if command[0] not in ("down", "up")]
        for goal in range(9):
            self.assertEqual(count_texts(1, 8, (0, 3), commands, goal),
                             sum(run([length], (0, 3), commands)[1] == goal for length in range(9)))

    def test_numbers_of_forty_digits(self):
        commands = read_commands(" ".join([f"{FORTY}R {FORTY - 1}L"] * 40 + [f"{FORTY}D", f"{FORTY}U"]))
        self.assertEqual(len(commands), 82)
        self.assertEqual(reach(commands), (0, FORTY, 0))
        self.assertEqual(box(commands, 1), (None, [(0, FORTY)]))
        self.assertEqual(box(commands, 42), (2, [(0, FORTY + 41)]))
        self.assertEqual(form(commands), (reach(commands), [(1, None, [(0, FORTY - 1)]), (41, -40, [(0, FORTY - 1)])]))
        self.assertIs(same_effect(commands, commands[2:]), False)
        self.assertIsNone(parting(commands[:-2], commands[:-2]))
        text, cursor = parting(commands[:-2], commands[2:-2])
        self.assertNotEqual(run(text, cursor, commands[:-2]), run(text, cursor, commands[2:-2]))
        assert_raises(self, "Impossible", 80, run, [5] * 40, (0, 0), commands)
        self.assertIsNone(Box(commands).answer([5] * 40, (0, 0)))
        self.assertEqual(Box(commands[:-2]).answer([3 * FORTY], (0, 0)), (0, 40))
        self.assertEqual(repeat([3 * FORTY], (0, 0), commands[:-2], FORTY), (0, 2 * FORTY + 1))
        self.assertEqual(origins([3 * FORTY], 0, commands[:-2], 41), (1, 1))
        self.assertEqual(count_texts(1, 3 * FORTY, (0, 0), commands[:-2], 40), 2 * FORTY - 38)
        self.assertEqual(count_texts(40, 3, (0, 0), commands, 40), 0)


class OtherValuesTest(unittest.TestCase):

    def test_counts(self):
        many = count_texts(40, 10 ** 30, (0, 0), [("home",)], 0)
        self.assertEqual(many, (10 ** 30 + 1) ** 40)
        more = count_texts(40, many, (0, 0), [("home",)], 0)
        self.assertEqual(more, (many + 1) ** 40)
        commands = [("right", more), ("left", many)]
        self.assertEqual(run([more], (0, 0), commands), (0, more - many))
        self.assertEqual(form(commands), ((0, 0, 0), [(1, None, [(0, many)]), (more - many + 1, many - more, [(0, many)])]))
        self.assertEqual(repeat([more + many], (0, 0), [("right", many)], more), (0, more + many))
        self.assertEqual(origins([more], 0, [("left", many)], 0), (0, many))
        editor = Editor([more], (0, many))
        editor.press(("right", more))
        self.assertEqual((editor.cursor, editor.column), ((0, more), more))
        assert_raises(self, "InvalidNumber", -many, box, [], -many)
        assert_raises(self, "InvalidText", 0, Editor.at_top, [-many])


if __name__ == "__main__":
    unittest.main()
