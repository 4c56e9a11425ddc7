"""Points 7, 8 and 10 to 12 and the section goalcolumn/forms.py."""

import itertools
import random
import unittest

from goalcolumn.boxes import box
from goalcolumn.forms import form, parting, same_effect
from goalcolumn.running import reach, run
from tests.helper import HUGE, NO_COMMANDS, SMALL_COMMANDS
from tests.helper import assert_example, assert_raises, digits_number, lists_up_to
from tests.helper import random_lists, slow_run, small_number, starts_up_to

EXAMPLES = [
    """
>>> from goalcolumn.forms import form
>>> [form([('right', 3)]), form([('left', 2), ('right', 5)])]
[((0, 0, 0), [(1, None, [(0, 0)]), (4, -3, [(0, 0)])]), ((0, 0, 0), [(1, None, [(0, 0)]), (6, -3, [(0, 0)])])]
""",
    """
>>> from goalcolumn.forms import form
>>> [form([]), form([('end',), ('down', 1)]), form([('home',), ('right', 2)])]
[((0, 0, 0), [(1, 0, [])]), ((0, 1, 1), [(1, None, [])]), ((0, 0, 0), [(1, None, [(0, 0)]), (3, None, None)])]
""",
    """
>>> from goalcolumn.forms import parting, same_effect
>>> from goalcolumn.running import run
>>> first = [('left', 2), ('right', 5)]
>>> text, cursor = parting(first, [('right', 3)])
>>> [run(text, cursor, first) == run(text, cursor, [('right', 3)]), same_effect([('right', 1), ('right', 2)], [('right', 3)])]
[False, True]
""",
]
ALONG_A_LINE = [("right", 1), ("right", 2), ("left", 1), ("left", 2), ("home",), ("end",)]
BOTH_WAYS = [("down", 1), ("up", 1), ("right", 1), ("left", 1), ("end",)]


def constants(commands, goal):
    """The box for a goal with its bounds as differences from the goal."""
    found = box(commands, goal)
    if found is None:
        return (None, None)
    start, lines = found
    return (None if start is None else start - goal, [(at, bound - goal) for at, bound in lines])


def slow_form(commands):
    """The form, read off the boxes one by one; behind the sum of all numbers nothing changes."""
    pieces = []
    for goal in range(1, sum(number for _, *numbers in commands for number in numbers) + 3):
        found = constants(commands, goal)
        if not pieces or pieces[-1][1:] != found:
            pieces.append((goal, *found))
    return (reach(commands), pieces)


def changed(chance, commands, number):
    """A list that differs a little from another one."""
    other = list(commands)
    at = chance.randrange(len(other) + 1)
    kind = chance.randrange(4)
    if kind == 0 or at == len(other):
        other.insert(at, ("left", number(chance, "left")))
    elif kind == 1:
        del other[at]
    elif kind == 2 and len(other[at]) == 2:
        other[at] = (other[at][0], other[at][1] + 1)
    else:
        other[at] = (chance.choice(["right", "down", "up"]), number(chance, "down"))
    return other


class ExamplesTest(unittest.TestCase):

    def test_examples(self):
        for example in EXAMPLES:
            with self.subTest(example=example):
                assert_example(self, example)


class FormTest(unittest.TestCase):

    def assert_fits(self, commands):
        """Assert that the pieces are in normal form and fit the boxes at both of their ends."""
        spanned, pieces = form(commands)
        self.assertEqual(spanned, reach(commands))
        self.assertEqual((type(spanned), type(pieces)), (tuple, list))
        firsts = [piece[0] for piece in pieces]
        self.assertEqual(firsts[0], 1)
        self.assertTrue(all(one < other for one, other in itertools.pairwise(firsts)))
        self.assertTrue(all(one[1:] != other[1:] for one, other in itertools.pairwise(pieces)))
        lasts = [first - 1 for first in firsts[1:]] + [firsts[-1] + 10 ** 32]
        for piece, last in zip(pieces, lasts):
            first, start, lines = piece
            self.assertIs(type(piece), tuple)
            if lines is not None:
                self.assertIs(type(lines), list)
                self.assertTrue(all(type(line) is tuple for line in lines))
                self.assertEqual([at for at, _ in lines], sorted({at for at, _ in lines}))
            for goal in {first, min(first + 1, last), (first + last) // 2, last}:
                self.assertEqual(constants(commands, goal), (start, lines), (commands, goal))

    def test_all_short_lists(self):
        for commands in lists_up_to(4):
            self.assert_fits(commands)
            self.assertEqual(form(commands), slow_form(commands), commands)

    def test_longer_lists(self):
        for _, commands in random_lists(10, 1500, 20, small_number):
            self.assert_fits(commands)
            self.assertEqual(form(commands), slow_form(commands), commands)

    def test_numbers_of_thirty_digits(self):
        for _, commands in random_lists(11, 1500, 20, digits_number):
            self.assert_fits(commands)

    def test_known_forms(self):
        for commands, expected in [
            ([("end",)], ((0, 0, 0), [(1, None, [])])),
            ([("home",)], ((0, 0, 0), [(1, None, None)])),
            ([("home",), ("end",)], ((0, 0, 0), [(1, None, [])])),
            ([("end",), ("home",)], ((0, 0, 0), [(1, None, None)])),
            ([("left", 3)], ((0, 0, 0), [(1, 3, [(0, 3)])])),
            ([("end",), ("left", 3)], ((0, 0, 0), [(1, None, [(0, 3)])])),
            ([("end",), ("right", 3)], ((0, 0, 0), [(1, None, [(0, 0)])])),
            ([("home",), ("left", 3)], ((0, 0, 0), [(1, None, None)])),
            ([("right", 1)] * 5, ((0, 0, 0), [(1, None, [(0, 0)]), (6, -5, [(0, 0)])])),
            ([("right", 5), ("left", 2)], ((0, 0, 0), [(1, None, [(0, 2)]), (4, -3, [(0, 2)])])),
            ([("right", 2), ("left", 2)], ((0, 0, 0), [(1, 0, [(0, 2)])])),
            ([("right", HUGE)], ((0, 0, 0), [(1, None, [(0, 0)]), (HUGE + 1, -HUGE, [(0, 0)])])),
            ([("up", 4), ("down", 9)], ((-4, 5, 5), [(1, 0, [])])),
            ([("right", 3), ("down", 1), ("right", 2), ("up", 2), ("left", 1)], (
                (-1, 1, -1),
                [(1, None, [(-1, 1), (1, 1)]), (2, None, [(-1, 1), (0, -1), (1, 1)]), (5, -4, [(-1, 1), (0, -1), (1, 1)])],
            )),
            ([("home",), ("right", 1), ("down", 2), ("right", 1), ("up", 2)], (
                (0, 2, 0), [(1, None, [(2, 0)]), (2, None, [(0, -1), (2, 0)]), (3, None, None)],
            )),
            ([("end",), ("right", 1), ("down", 2), ("right", 1)], (
                (0, 2, 2), [(1, None, [(2, 0)]), (2, None, [(0, -1), (2, 0)])],
            )),
        ]:
            with self.subTest(commands=commands):
                self.assertEqual(form(commands), expected)

    def test_twenty_commands_of_all_kinds(self):
        self.assertEqual(form([("right", 10 ** k) for k in range(20)]),
                         ((0, 0, 0), [(1, None, [(0, 0)]), (int("1" * 20) + 1, -int("1" * 20), [(0, 0)])]))
        commands = [("right", 3), ("down", 2)] * 10
        spanned, pieces = form(commands)
        self.assertEqual((spanned, len(pieces)), ((0, 20, 20), 11))
        self.assertEqual([piece[0] for piece in pieces], list(range(1, 32, 3)))
        self.assertEqual(pieces[-1][1:], (-30, [(2 * k, -3 * (9 - k)) for k in range(10)]))
        commands = (SMALL_COMMANDS[:6] + [("right", 7)]) * 2 + [("up", 4), ("left", HUGE), ("right", HUGE)] * 2
        self.assertEqual(len(commands), 20)
        self.assert_fits(commands)
        self.assert_fits([("home",)] + commands[1:])
        self.assert_fits([("end",)] + commands[1:])

    def test_long_lists(self):
        commands = [("right", 2), ("down", 1)] * 300
        spanned, pieces = form(commands)
        self.assertEqual((spanned, len(pieces)), ((0, 300, 300), 301))
        commands = [("right", 2), ("left", 1)] * 20000 + [("left", 3), ("down", 1)] * 2
        self.assertEqual(form(commands), (
            (0, 2, 2), [(1, None, [(0, 7), (1, 3)]), (19995, -19994, [(0, 7), (1, 3)])],
        ))

    def test_what_is_returned_may_be_passed_on(self):
        for first, start, lines in form([("right", HUGE), ("down", 1), ("right", HUGE), ("left", 5)])[1]:
            self.assertEqual(constants([("right", HUGE), ("down", 1), ("right", HUGE), ("left", 5)], first), (start, lines))
        self.assertEqual(form([("right", 2 * HUGE - 4)])[1][1], (2 * HUGE - 3, 4 - 2 * HUGE, [(0, 0)]))


class SameEffectTest(unittest.TestCase):

    def compare_all(self, lists, starts):
        """Assert that lists have equal forms exactly if they do the same from each start."""
        lists = [tuple(commands) for commands in lists]
        by_form, by_runs = {}, {}
        for commands in lists:
            runs = tuple(place if place[0] != "impossible" else None
                         for place in (slow_run(text, cursor, commands) for text, cursor in starts))
            by_form.setdefault(repr(form(list(commands))), []).append(commands)
            by_runs.setdefault(runs, []).append(commands)
        self.assertEqual(sorted(by_form.values()), sorted(by_runs.values()))
        return list(by_runs.values())

    def assert_groups(self, groups):
        """Assert that same_effect holds within each group and between no two of them."""
        for group in groups:
            for commands in group:
                self.assertIs(same_effect(list(group[0]), list(commands)), True)
                self.assertIs(same_effect(list(commands), list(group[0])), True)
        for one, other in itertools.combinations([group[-1] for group in groups], 2):
            self.assertIs(same_effect(list(one), list(other)), False)
            self.assertIs(same_effect(list(other), list(one)), False)

    def test_all_pairs_of_short_lists(self):
        starts = list(starts_up_to(3, 3, [0, 1, 2, 3, 4, None])) + list(starts_up_to(1, 5, [0, 1, 3, 5, 6, None]))
        self.assert_groups(self.compare_all(lists_up_to(2), starts))

    def test_lists_along_a_line(self):
        starts = list(starts_up_to(1, 9, list(range(11)) + [None]))
        self.assert_groups(self.compare_all(lists_up_to(4, ALONG_A_LINE), starts))

    def test_lists_of_three_both_ways(self):
        starts = list(starts_up_to(3, 4, [0, 1, 2, 3, 4, 5, None]))
        starts += [([4] * lines, (row, 3)) for lines in (4, 5) for row in range(lines)]
        self.assert_groups(self.compare_all(lists_up_to(3, BOTH_WAYS), starts))

    def test_exactly_if_the_forms_are_equal(self):
        chance = random.Random(12)
        for many, number in [(4, small_number), (20, small_number), (20, digits_number)]:
            for _, commands in random_lists(13, 500, many, number):
                other = changed(chance, commands, number)
                self.assertIs(same_effect(commands, other), form(commands) == form(other))
                self.assertIs(same_effect(commands, list(commands)), True)

    def test_known_pairs(self):
        for first, second, expected in [
            ([], [], True),
            ([("right", HUGE), ("right", 1)], [("right", 1), ("right", HUGE)], True),
            ([("right", HUGE)], [("right", HUGE - 1)], False),
            ([("left", HUGE)], [("left", HUGE - 1)], False),
            ([("left", HUGE)], [("home",)], False),
            ([("right", HUGE)], [("end",)], False),
            ([("right", HUGE)], [("right", HUGE), ("end",)], False),
            ([("home",), ("left", 5)], [("home",)], True),
            ([("end",), ("right", 1)], [("end",), ("right", 9)], True),
            ([("end",), ("right", 1)], [("end",)], False),
            ([("end",), ("home",)], [("home",)], True),
            ([("home",), ("down", 2)], [("down", 2), ("home",)], True),
            ([("down", 1), ("down", 1)], [("down", 2)], True),
            ([("down", 1), ("up", 1)], [], False),
            ([("down", 1), ("up", 1)], [("up", 1), ("down", 1)], False),
            ([("down", 3), ("up", 1)], [("down", 2)], False),
            ([("down", 3), ("up", 3), ("up", 1)], [("up", 1), ("down", 4), ("up", 4)], True),
            ([("left", 1), ("down", 1), ("left", 1)], [("down", 1), ("left", 1), ("up", 1), ("left", 1), ("down", 1)], False),
            ([("right", 2), ("left", 2)], [("right", 1), ("left", 1)], False),
            ([("left", 2), ("right", 2)], [("left", 3), ("right", 3)], False),
        ]:
            with self.subTest(first=first, second=second):
                self.assertIs(same_effect(first, second), expected)
                self.assertIs(same_effect(second, first), expected)


class PartingTest(unittest.TestCase):

    def assert_parts(self, first, second):
        """Assert that a valid start tells the two lists apart, or that there is none."""
        found = parting(first, second)
        self.assertEqual(found is None, form(first) == form(second), (first, second))
        if found is None:
            return
        self.assertIs(type(found), tuple)
        text, cursor = found
        self.assertEqual((type(text), type(cursor)), (list, tuple))
        self.assertTrue(text and all(type(length) is int and length >= 0 for length in text))
        self.assertTrue(0 <= cursor[0] < len(text) and (cursor[1] is None or cursor[1] >= 0))
        self.assertNotEqual(self.after(text, cursor, first), self.after(text, cursor, second), (first, second, found))

    def after(self, text, cursor, commands):
        """The cursor after the commands, or None if they are impossible."""
        least, greatest, _ = reach(commands)
        if cursor[0] + least < 0 or cursor[0] + greatest >= len(text):
            return None
        return run(text, cursor, commands)

    def test_all_pairs_of_short_lists(self):
        lists = list(lists_up_to(2))
        for first in lists:
            for second in lists:
                self.assert_parts(first, second)

    def test_all_lists_along_a_line(self):
        lists = list(lists_up_to(3, ALONG_A_LINE))
        for first in lists:
            for second in lists[::5]:
                self.assert_parts(first, second)

    def test_longer_lists_that_differ_a_little(self):
        chance = random.Random(14)
        for many, number in [(4, small_number), (20, small_number), (20, digits_number)]:
            for _, commands in random_lists(15, 500, many, number):
                other = changed(chance, commands, number)
                self.assert_parts(commands, other)
                self.assert_parts(other, commands)

    def test_lists_that_differ_only_in_their_reach(self):
        down, up = [("down", 1), ("up", 1)], [("up", 1), ("down", 1)]
        lists = [
            [], down, up, down + up, down + down + up, [("down", 2), ("up", 2)], [("up", 2), ("down", 2)],
            [("down", 1), ("up", 2), ("down", 1)], [("up", 1), ("down", 3), ("up", 2)], [("down", 5), ("up", 7), ("down", 2)],
            [("down", 1)], [("down", 2), ("up", 1)], [("up", 1), ("down", 2)], [("down", 2)], [("up", 2)], [("up", 3), ("down", 1)],
        ]
        for before in [[], [("right", 3)], [("home",)], [("end",)]]:
            for first in lists:
                for second in lists:
                    self.assert_parts(before + first, before + second)

    def test_lists_that_differ_only_in_a_bound(self):
        for first, second in [
            ([("right", 2), ("left", 2)], [("right", 1), ("left", 1)]),
            ([("left", 2), ("right", 2)], [("left", 3), ("right", 3)]),
            ([("right", HUGE), ("left", HUGE)], [("right", HUGE - 1), ("left", HUGE - 1)]),
            ([("right", HUGE)], [("right", HUGE - 1)]),
            ([("home",), ("right", HUGE)], [("home",), ("right", HUGE - 1)]),
            ([("end",), ("left", HUGE)], [("end",), ("left", HUGE - 1)]),
            ([("end",), ("down", 2), ("left", 3)], [("end",), ("down", 2), ("left", 2)]),
            ([("up", 1), ("left", 2), ("right", 2), ("down", 1)], [("up", 1), ("left", 1), ("right", 1), ("down", 1)]),
            ([("up", 1), ("right", 2), ("left", 2), ("down", 1)], [("up", 1), ("right", 1), ("left", 1), ("down", 1)]),
            ([("left", 1), ("down", 1), ("right", 1)], [("down", 1), ("left", 1), ("right", 1)]),
            ([("end",)], [("right", HUGE)]),
            ([("home",)], [("left", HUGE)]),
            ([("home",)], [("end",)]),
        ]:
            self.assertFalse(same_effect(first, second))
            self.assert_parts(first, second)
            self.assert_parts(second, first)

    def test_a_reach_of_two_hundred_rows(self):
        far = [("down", 199), ("up", 199)]
        lists = [
            far, [("up", 199), ("down", 199)], [("down", 198), ("up", 198)], [("down", 199)], [("up", 199)],
            [("up", 100), ("down", 199), ("up", 99)], [("up", 99), ("down", 199), ("up", 100)],
            far + [("left", 1)], far + [("right", 1), ("left", 1)], [("down", 199), ("left", 1), ("up", 199)],
            [("down", 199), ("left", 2), ("up", 199)], [("left", 1)] + far, [("end",)] + far, far + [("home",)], [],
        ]
        for first in lists:
            for second in lists:
                self.assert_parts(first, second)

    def test_none_for_other_lists_with_the_same_effect(self):
        for first, second in [
            ([("right", 1), ("right", 2)], [("right", 3)]),
            ([("down", 3), ("up", 3), ("up", 1)], [("up", 1), ("down", 4), ("up", 4)]),
            ([("end",), ("right", 1)], [("end",), ("right", 9)]),
            ([("left", 1), ("down", 1), ("home",)], [("down", 1), ("home",)]),
        ]:
            self.assertNotEqual(first, second)
            self.assertIsNone(parting(first, second))


class ErrorsTest(unittest.TestCase):

    def test_each_way_to_be_no_command(self):
        for wrong in NO_COMMANDS:
            for before in [[], [("right", 1)], [("home",), ("end",)], [("end",), ("up", 1), ("home",)]]:
                commands = before + [wrong, ("left",)]
                with self.subTest(commands=commands):
                    assert_raises(self, "InvalidCommand", len(before), form, commands)
                    for function in [same_effect, parting]:
                        for other in [[], [("home",)], [("up", 3)], before]:
                            assert_raises(self, "InvalidCommand", len(before), function, commands, other)
                            assert_raises(self, "InvalidCommand", len(before), function, other, commands)

    def test_the_first_list_is_checked_first(self):
        wrong = ("right", 0)
        for function in [same_effect, parting]:
            for first, second in itertools.permutations(range(4), 2):
                assert_raises(self, "InvalidCommand", first, function,
                              [("down", 1)] * first + [wrong], [("down", 1)] * second + [wrong])


if __name__ == "__main__":
    unittest.main()
