"""Points 9 to 11 and the section goalcolumn/learning.py."""

import random
import unittest

from goalcolumn.forms import form
from goalcolumn.learning import Box, learn
from goalcolumn.readings import read_commands
from goalcolumn.running import reach, run
from goalcolumn.texts import show_commands
from tests.helper import HUGE, NO_COMMANDS
from tests.helper import assert_example, assert_raises, digits_number, lists_up_to
from tests.helper import random_lists, slow_run, starts_up_to

EXAMPLES = [
    """
>>> from goalcolumn.learning import Box, learn
>>> learn(Box([('left', 2), ('right', 5)]), 3, 100)
((0, 0, 0), [(1, None, [(0, 0)]), (6, -3, [(0, 0)])])
""",
]
MOST_QUESTIONS = 20000
MOST_SIZE = 10 ** 6
ALONG_A_LINE = [("right", 1), ("right", 2), ("left", 1), ("left", 2), ("home",), ("end",)]


def numbers_sum(commands):
    """What the numbers of left and right add up to."""
    return sum(number for name, *numbers in commands if name in ("left", "right") for number in numbers)


def farthest(commands):
    """How many rows away from the start the commands go at most."""
    least, greatest, _ = reach(commands)
    return max(-least, greatest)


def splits(chance, total, many):
    """So many numbers of at least 1 that add up to a total."""
    cuts = sorted(chance.sample(range(1, total), many - 1))
    return [high - low for low, high in zip([0] + cuts, cuts + [total])]


def random_hidden(chance, rows, most, total):
    """A list of at most so many commands that stays so near, its numbers adding up to a total."""
    kinds = [chance.choice(["move", "move", "side", "side", "side"]) for _ in range(chance.randrange(1, most + 1))]
    sides = max(1, kinds.count("side"))
    numbers = splits(chance, total, sides) if chance.random() < 0.5 else [
        min(total // sides, chance.randrange(1, 10 ** chance.randrange(1, 6))) for _ in range(sides)]
    commands = []
    place = 0
    for kind in kinds:
        other = place + chance.choice([-1, 1]) if chance.random() < 0.6 else chance.randrange(-rows, rows + 1)
        if kind == "side":
            commands.append((chance.choice(["left", "right"]), numbers.pop()))
        elif chance.random() < 0.12:
            commands.append(chance.choice([("home",), ("end",)]))
        elif other != place and abs(other) <= rows:
            commands.append(("down", other - place) if other > place else ("up", place - other))
            place = other
    return commands


def growing_swings(lines, step):
    """A list, longest of those that are read, in which each goal that is a new greatest one moves all bounds."""
    backwards = []
    added = most = 0
    needed = [0] * lines
    down = True
    while len(show_commands(backwards)) < 3500 and numbers_sum(backwards) < MOST_SIZE * 9 // 10:
        most += step
        backwards.append(("right", added + most))
        added = -most
        for at in range(lines) if down else range(lines - 1, -1, -1):
            needed[at] = max(added + 1, needed[at] + step + at)
            backwards += [("left", needed[at] - added), ("up" if down else "down", 1)]
            added = needed[at]
        backwards.pop()
        down = not down
    return read_commands(show_commands(backwards[::-1]))


class Heard(Box):
    """A box that answers for another one and writes down what it was asked."""

    def __init__(self, commands):
        Box.__init__(self, [("up", 9), ("left", 5)])
        self.other = Box(commands)
        self.heard = []

    def answer(self, text, cursor):
        self.heard.append((list(text), cursor))
        return self.other.answer(text, cursor)


class ExamplesTest(unittest.TestCase):

    def test_examples(self):
        for example in EXAMPLES:
            with self.subTest(example=example):
                assert_example(self, example)


class BoxTest(unittest.TestCase):

    def test_all_short_lists_on_small_texts(self):
        starts = list(starts_up_to(3, 2, [0, 1, 3, None]))
        for commands in lists_up_to(2):
            box = Box(commands)
            for asked, (text, cursor) in enumerate(starts):
                self.assertEqual(box.questions, asked)
                expected = slow_run(text, cursor, commands)
                found = box.answer(text, cursor)
                self.assertEqual(found, None if expected[0] == "impossible" else expected)
            self.assertEqual(box.questions, len(starts))

    def test_numbers_of_thirty_digits(self):
        for chance, commands in random_lists(22, 500, 20, digits_number):
            box = Box(commands)
            least, greatest, _ = reach(commands)
            text = [chance.randrange(10 ** chance.randrange(1, 31)) for _ in range(greatest - least + 1)]
            cursor = (-least, chance.choice([0, HUGE, None]))
            self.assertEqual(box.answer(text, cursor), run(text, cursor, commands))
            if least < 0:
                self.assertIsNone(box.answer(text, (-least - 1, HUGE)))
            if greatest > 0:
                self.assertIsNone(box.answer(text, (-least + 1, None)))

    def test_the_empty_list(self):
        box = Box([])
        for cursor in [(0, 0), (1, 7), (1, None)]:
            self.assertEqual(box.answer([5, 2], cursor), cursor)
        self.assertEqual(box.questions, 3)

    def test_the_list_is_copied(self):
        commands = [("right", 2), ("down", 1)]
        box = Box(commands)
        commands[0] = ("home",)
        commands.append(("up", 5))
        self.assertEqual(box.answer([5, 2], (0, 1)), (1, 3))
        self.assertEqual(learn(box, 1, 2), form([("right", 2), ("down", 1)]))
        self.assertEqual(commands, [("home",), ("down", 1), ("up", 5)])

    def test_the_list_is_hidden(self):
        box = Box([("right", 2), ("down", 1)])
        self.assertEqual([name for name in dir(box) if not name.startswith("_")], ["answer", "questions"])

    def test_each_way_to_be_no_command(self):
        for wrong in NO_COMMANDS:
            for before in [[], [("right", 1)], [("down", 9), ("end",)]]:
                assert_raises(self, "InvalidCommand", len(before), Box, before + [wrong, ()])
        assert_raises(self, "InvalidCommand", 0, Box, commands=[("left",)])

    def test_questions_that_raise_do_not_count(self):
        box = Box([("down", 1), ("end",)])
        self.assertIs(type(box.questions), int)
        self.assertEqual(box.questions, 0)
        for text, cursor, name, value in [
            ([], (0, 0), "InvalidText", None), ([], (5, -1), "InvalidText", None),
            ([3, -1, -2], (0, 0), "InvalidText", 1), ([-1], (5, -1), "InvalidText", 0),
            ([3], (1, 0), "InvalidCursor", (1, 0)), ([3], (-1, None), "InvalidCursor", (-1, None)),
            ([3, 3], (0, -1), "InvalidCursor", (0, -1)), ([3, 3], (2, -1), "InvalidCursor", (2, -1)),
        ]:
            assert_raises(self, name, value, box.answer, text, cursor)
            assert_raises(self, name, value, box.answer, cursor=cursor, text=text)
            self.assertEqual(box.questions, 0)
        self.assertIsNone(box.answer([3], (0, 0)))
        self.assertEqual(box.questions, 1)
        self.assertEqual(box.answer(cursor=(0, 0), text=[3, 2]), (1, None))
        self.assertEqual(box.questions, 2)
        assert_raises(self, "InvalidText", None, box.answer, [], (0, 0))
        self.assertEqual((box.questions, box.questions), (2, 2))

    def test_answers_do_not_depend_on_each_other(self):
        box, other = Box([("right", 1)]), Box([("right", 1)])
        self.assertEqual([box.answer([5], (0, 2)) for _ in range(3)], [(0, 3)] * 3)
        self.assertEqual((box.questions, other.questions), (3, 0))

    def test_the_text_stays_unchanged(self):
        text = [5, 2]
        Box([("down", 1), ("left", 1)]).answer(text, (0, 4))
        self.assertEqual(text, [5, 2])


class LearnTest(unittest.TestCase):

    def assert_learns(self, commands, rows=None, size=None):
        """Assert that the form is learned with few questions, and tell with how many."""
        box = Box(commands)
        rows = farthest(commands) if rows is None else rows
        size = numbers_sum(commands) if size is None else size
        self.assertEqual(learn(box, rows, size), form(commands), (commands, rows, size))
        self.assertLessEqual(box.questions, MOST_QUESTIONS)
        return box.questions

    def test_all_short_lists(self):
        for commands in lists_up_to(3):
            self.assert_learns(commands)
            self.assert_learns(commands, 3, 9)
            self.assert_learns(commands, 15, MOST_SIZE)

    def test_lists_along_a_line(self):
        for commands in lists_up_to(4, ALONG_A_LINE):
            self.assert_learns(commands)
            self.assert_learns([("up", 1)] + commands + [("down", 1)], 4, 10)

    def test_rows_and_sizes_that_just_suffice(self):
        chance = random.Random(23)
        for _ in range(300):
            commands = random_hidden(chance, chance.randrange(1, 16), 20, chance.randrange(20, 200))
            self.assert_learns(commands)
            self.assert_learns(commands, farthest(commands) + 1, numbers_sum(commands) + 1)

    def test_twenty_commands_of_all_kinds(self):
        chance = random.Random(24)
        for _ in range(500):
            commands = random_hidden(chance, 15, 20, MOST_SIZE)
            self.assertLessEqual(len(commands), 20)
            self.assertLessEqual(numbers_sum(commands), MOST_SIZE)
            self.assert_learns(commands, 15, MOST_SIZE)

    def test_numbers_that_add_up_to_a_million(self):
        for commands in [
            [("left", MOST_SIZE)], [("right", MOST_SIZE)], [("left", MOST_SIZE - 1), ("right", 1)],
            [("right", MOST_SIZE - 1), ("left", 1)], [("right", 1), ("left", MOST_SIZE - 1)],
            [("right", 500000), ("left", 500000)], [("left", 500000), ("right", 500000)],
            [("home",), ("right", MOST_SIZE)], [("home",), ("right", 1), ("left", MOST_SIZE - 1)],
            [("end",), ("left", MOST_SIZE)], [("end",), ("right", MOST_SIZE)],
            [("right", 50000), ("down", 3), ("left", 50000), ("up", 6)] * 5 + [("down", 14)] + [("right", 250000)] * 2,
            [("right", 333333), ("down", 15), ("right", 333333), ("up", 30), ("right", 333334)],
        ]:
            for before in [[], [("home",)], [("end",)]]:
                self.assert_learns(before + commands, 15, MOST_SIZE)
                self.assert_learns(commands + before, 15, MOST_SIZE)

    def test_the_empty_list_and_others_without_numbers(self):
        for commands in [[], [("home",)], [("end",)], [("down", 15)], [("up", 15)], [("up", 15), ("down", 30), ("up", 15)],
                         [("end",), ("home",)], [("home",), ("end",)], [("up", 3), ("home",), ("down", 5)]]:
            self.assert_learns(commands)
            self.assert_learns(commands, 15, 0)
            self.assert_learns(commands, 15, 1)
            self.assert_learns(commands, 15, MOST_SIZE)
        self.assertEqual(learn(Box([]), 0, 0), ((0, 0, 0), [(1, 0, [])]))
        self.assertEqual(learn(Box([("home",)]), 0, 0), ((0, 0, 0), [(1, None, None)]))
        self.assertEqual(learn(Box([("end",), ("up", 1)]), 1, 0), ((-1, 0, -1), [(1, None, [])]))

    def test_rows_without_left_and_right(self):
        for commands in [
            [("down", 3), ("left", 2), ("up", 1)], [("up", 2), ("down", 4), ("right", 7), ("down", 1), ("left", 1)],
            [("right", 4), ("down", 15), ("up", 14), ("left", 9)], [("down", 2), ("end",), ("up", 1), ("left", 3)],
        ]:
            self.assert_learns(commands, 15, MOST_SIZE)
        self.assertEqual(learn(Box([("down", 3), ("left", 2), ("up", 1)]), 3, 2), ((0, 3, 2), [(1, 2, [(3, 2)])]))

    def test_reaches_that_are_wider_than_where_the_list_ends(self):
        side = ("left", 2)
        for up in range(0, 16, 3):
            for down in range(0, 16, 3):
                commands = [("up", up)] * (up > 0) + [("down", up + down)] * (up + down > 0) + [side]
                for back in (0, 1, up + down):
                    ended = commands + [("up", back)] * (back > 0 and back <= up + down)
                    spanned, _ = learn(Box(ended), 15, 2)
                    self.assertEqual(spanned, reach(ended))
                    self.assert_learns(ended, 15, 2)

    def test_lists_that_are_read(self):
        for commands in [
            growing_swings(1, 1), growing_swings(2, 7), growing_swings(15, 40), growing_swings(16, 300),
            growing_swings(15, 1), read_commands(("1R 1L " * 700)[:3999].strip()),
            read_commands(" ".join(["99R 1D 9L 1U"] * 300)), read_commands("H " * 1999 + "H"),
        ]:
            self.assertLessEqual(farthest(commands), 15)
            self.assert_learns(commands, 15, MOST_SIZE)
        self.assertGreater(len(form(growing_swings(1, 1))[1]), 300)

    def test_boxes_that_were_asked_before_or_are_learned_twice(self):
        commands = [("right", 70), ("down", 2), ("left", 9), ("up", 3), ("right", 12), ("left", 40)]
        box = Box(commands)
        for text, cursor in starts_up_to(3, 2, [0, None]):
            box.answer(text, cursor)
        for rows, size in [(3, 131), (15, MOST_SIZE), (15, MOST_SIZE)]:
            before = box.questions
            self.assertEqual(learn(box, rows, size), form(commands))
            self.assertLessEqual(box.questions - before, MOST_QUESTIONS)
            self.assertGreater(box.questions, before)
        self.assertEqual(box.answer([9] * 4, (1, 0)), run([9] * 4, (1, 0), commands))

    def test_it_only_asks(self):
        for commands in [
            [], [("right", 3)], [("down", 2), ("left", 500000), ("up", 4), ("right", 500000)],
            [("home",), ("right", 4), ("up", 15), ("down", 30), ("right", 2)],
        ]:
            box = Heard(commands)
            self.assertEqual(learn(box, 15, MOST_SIZE), form(commands))
            self.assertEqual((box.questions, box.other.questions), (0, len(box.heard)))
            for text, (row, goal) in box.heard:
                self.assertLessEqual(len(text), 31)
                self.assertTrue(all(type(length) is int and 0 <= length < HUGE for length in text))
                self.assertTrue(0 <= row < len(text) and (goal is None or 0 <= goal < HUGE))

    def test_every_list_is_new(self):
        box = Box([("right", 3), ("down", 1), ("left", 2)])
        first = learn(box, 1, 5)
        expected = form([("right", 3), ("down", 1), ("left", 2)])
        lists = [first[1]] + [lines for _, _, lines in first[1]]
        self.assertEqual(len({id(rows) for rows in lists}), len(lists))
        for rows in reversed(lists):
            rows.clear()
        self.assertEqual(learn(box, 1, 5), expected)

    def test_kinds_of_values(self):
        spanned, pieces = learn(Box([("right", 3), ("down", 1), ("home",), ("right", 1)]), 1, 4)
        self.assertEqual((type(spanned), type(pieces)), (tuple, list))
        self.assertEqual(repr((spanned, pieces)), "((0, 1, 1), [(1, None, [(1, 0)]), (2, None, None)])")
        self.assertTrue(all(type(piece) is tuple for piece in pieces))

    def test_by_name(self):
        self.assertEqual(learn(size=100, rows=3, box=Box(commands=[("left", 2)])), ((0, 0, 0), [(1, 2, [(0, 2)])]))

    def test_somewhat_beyond_the_limits(self):
        self.assert_learns([("up", 20), ("left", 10 ** 6), ("down", 41), ("right", 2 * 10 ** 6)], 22, 4 * 10 ** 6)


if __name__ == "__main__":
    unittest.main()
