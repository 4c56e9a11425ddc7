"""Point 6 and the section goalcolumn/texts.py, goalcolumn/readings.py."""

import itertools
import random
import re
import unittest

from goalcolumn.counting import count_texts
from goalcolumn.readings import read_commands
from goalcolumn.texts import show_commands
from tests.helper import HUGE, SMALL_COMMANDS
from tests.helper import assert_example, assert_raises, digits_number, lists_up_to, random_lists, small_number

EXAMPLES = [
    """
>>> from goalcolumn.texts import show_commands
>>> show_commands([('down', 3), ('home',), ('right', 10)])
'3D H 10R'
""",
    """
>>> from goalcolumn.readings import read_commands
>>> read_commands('0L')
raises Unreadable('0L')
""",
]
WORD = "(?:[1-9][0-9]{0,39}[DURL]|[HE])"
READABLE = re.compile(f"none|{WORD}(?: {WORD})*")
NAMES = {"D": "down", "U": "up", "R": "right", "L": "left", "H": "home", "E": "end"}
FORTY = "1234567890" * 4
ALL_SIGNS = [chr(code) for code in range(ord(" "), ord("~") + 1)]


def slow_read(text):
    """The list of a text, or None if a regular expression does not match it."""
    if not READABLE.fullmatch(text):
        return None
    if text == "none":
        return []
    return [(NAMES[word[-1]], int(word[:-1])) if word[:-1] else (NAMES[word],) for word in text.split(" ")]


class ExamplesTest(unittest.TestCase):

    def test_examples(self):
        for example in EXAMPLES:
            with self.subTest(example=example):
                assert_example(self, example)


class ShowTest(unittest.TestCase):

    def test_each_command(self):
        for commands, text in [
            ([], "none"), ([("home",)], "H"), ([("end",)], "E"), ([("down", 1)], "1D"), ([("up", 2)], "2U"),
            ([("right", 5)], "5R"), ([("left", 1)], "1L"), ([("left", 10)], "10L"), ([("home",), ("home",)], "H H"),
            ([("down", HUGE), ("end",), ("left", 100), ("up", 7)], "9" * 30 + "D E 100L 7U"),
            ([("right", int(FORTY))], FORTY + "R"), ([("up", 10 ** 39)], "1" + "0" * 39 + "U"),
        ]:
            with self.subTest(text=text):
                self.assertEqual(show_commands(commands), text)

    def test_numbers_of_any_size(self):
        for digits in ["1" + "0" * 63, "1" + "0" * 64, "9" * 64, "7" + "0" * 64 + "8" + "0" * 63, FORTY + "9" * 87]:
            self.assertEqual(show_commands([("up", int(digits)), ("end",)]), digits + "U E")
        many = count_texts(40, 10 ** 29 - 1, (0, None), [], None)
        self.assertEqual(show_commands([("right", many)]), "1" + "0" * 1160 + "R")
        # Python's own str ends at 4300 digits, count_texts does not.
        more = count_texts(40, many - 1, (0, None), [], None)
        self.assertEqual(show_commands([("left", more + 23)]), "1" + "0" * 46398 + "23L")

    def test_twenty_commands_and_more(self):
        commands = SMALL_COMMANDS * 500
        self.assertEqual(show_commands(commands), " ".join(["1D 1U 1R 2R 1L 2L H E"] * 500))


class ReadTest(unittest.TestCase):

    def assert_reads(self, text):
        """Assert that a text is read, or not, as the document says, and what is read is shown so again."""
        expected = slow_read(text)
        if expected is None:
            assert_raises(self, "Unreadable", text, read_commands, text)
            return
        found = read_commands(text)
        self.assertEqual(found, expected)
        self.assertEqual(show_commands(found), text)

    def test_each_command(self):
        for text, commands in [
            ("none", []), ("H", [("home",)]), ("E", [("end",)]), ("1D", [("down", 1)]), ("2U", [("up", 2)]),
            ("5R", [("right", 5)]), ("1L", [("left", 1)]), ("10L", [("left", 10)]), ("H H", [("home",), ("home",)]),
            ("3D H 10R", [("down", 3), ("home",), ("right", 10)]), (FORTY + "U", [("up", int(FORTY))]),
            ("9" * 40 + "L E", [("left", 10 ** 40 - 1), ("end",)]), ("1" + "0" * 39 + "R", [("right", 10 ** 39)]),
        ]:
            with self.subTest(text=text):
                found = read_commands(text)
                self.assertEqual(found, commands)
                self.assertIs(type(found), list)
                self.assertTrue(all(type(part) in (str, int) and type(command) is tuple
                                    for command in found for part in command))

    def test_unreadable_texts(self):
        for text in [
            "", " ", "  ", "0", "1", "D", "U", "R", "L", "0D", "00L", "01D", "007R", "1H", "1E", "0H", "H1", "D1", "1D1",
            "h", "e", "1d", "2u", "3r", "4l", "NONE", "None", "none ", " none", "none none", "none H", "H none", "non",
            "nonee", "-1D", "+1D", "1.0D", "1 D", "1_0D", "1,0D", "1e3R", "0x1R", "1DD", "1D2U", "HE", "EH", "HH", "1D,H",
            " H", "H ", "H  E", "1D  2U", "\tH", "H\t", "H\tE", "H\n", "\nH", "H\nE", "1D\n", "1\nD", "H\u00a0E", "H\u2003E",
            "\u0663D", "1\u0663D", "\uff11D", "\u00b2D", "1\u00b2D", "\u2460D", "\u0967L", "\u216cD", "1\uff24", "\u0415",
            "1" + "0" * 40 + "D", "9" * 41 + "L", "0" * 40 + "1D", "0" * 39 + "1D", "H " + "1" * 41 + "R", "9" * 3999 + "R",
            "1X", "1F", "X", "()", "[]", "3D H 10R 0L", "0L 3D", "3D 0 2L", "3D H 10", "H E -", "1D;", "None\n",
        ]:
            with self.subTest(text=text):
                self.assertIsNone(slow_read(text))
                assert_raises(self, "Unreadable", text, read_commands, text)

    def test_all_short_texts(self):
        for size in range(6):
            for signs in itertools.product("01DL E", repeat=size):
                self.assert_reads("".join(signs))
        for size in range(4):
            for signs in itertools.product("059DURLHEn d-", repeat=size):
                self.assert_reads("".join(signs))
        for signs in itertools.product("noneN ", repeat=4):
            self.assert_reads("".join(signs))

    def test_all_texts_of_one_and_two_signs(self):
        for sign in ALL_SIGNS:
            self.assert_reads(sign)
            for other in ALL_SIGNS:
                self.assert_reads(sign + other)

    def test_texts_with_one_change(self):
        texts = ["none", "3D H 10R", "E 40L " + FORTY + "U 1R", "H", "9" * 39 + "D", "10D 20U 30R 40L H E"]
        signs = [sign for sign in ALL_SIGNS if sign not in "bcfgijkmpqstvwxyz"] + ["\n", "\t", "\u0663", "\u00a0"]
        for text in texts:
            for at in range(len(text) + 1):
                self.assert_reads(text[:at] + text[at + 1:])
                self.assert_reads(text[:at] + text[at:at + 1] * 2 + text[at + 1:])
                for sign in signs:
                    self.assert_reads(text[:at] + sign + text[at:])
                    self.assert_reads(text[:at] + sign + text[at + 1:])

    def test_long_texts_with_one_change(self):
        chance = random.Random(18)
        for _, commands in random_lists(19, 1500, 20, digits_number):
            text = show_commands(commands)
            self.assert_reads(text)
            for _ in range(6):
                at = chance.randrange(len(text) + 1)
                sign = chance.choice([" ", "0", "1", "9", "D", "L", "H", "E", "d", "-", "", "  ", "none"])
                self.assert_reads(text[:at] + sign + text[at + chance.randrange(2):])

    def test_texts_of_four_thousand_signs(self):
        for word in ["H", "1D", "10L", "99R 1U", FORTY + "U", "7" * 39 + "D E"]:
            words = ((word + " ") * 4000)[:4000].split(" ")[:-1]
            text = " ".join(words)
            self.assertGreater(len(text), 3950)
            self.assert_reads(text)
            for wrong in ["0L", "D", "1H", "h", "", "1" * 41 + "R", "none", "+1U"]:
                self.assert_reads(" ".join(words[:-3] + [wrong] + words[-2:]))
                self.assert_reads(" ".join(words[:-1] + [wrong]))
        for text in ["H" * 4000, "1" * 4000, " " * 4000, "1" * 3999 + "D", "0" * 3999 + "D", "H " * 2000, " H" * 2000]:
            assert_raises(self, "Unreadable", text, read_commands, text)


class BothWaysTest(unittest.TestCase):

    def assert_comes_back(self, commands):
        """Assert that what is shown is read as the same list."""
        text = show_commands(commands)
        self.assertIsNotNone(READABLE.fullmatch(text))
        found = read_commands(text)
        self.assertEqual(found, commands)
        self.assertIsNot(found, commands)

    def test_all_short_lists(self):
        for commands in lists_up_to(4):
            self.assert_comes_back(commands)

    def test_longer_lists(self):
        for number in (small_number, digits_number):
            for _, commands in random_lists(20, 1000, 20, number):
                self.assert_comes_back(commands)

    def test_numbers_of_thirty_and_of_forty_digits(self):
        chance = random.Random(21)
        for digits in (1, 2, 29, 30, 31, 39, 40):
            for number in [10 ** (digits - 1), 10 ** digits - 1, chance.randrange(10 ** (digits - 1), 10 ** digits)]:
                for name in ("down", "up", "right", "left"):
                    self.assert_comes_back([(name, number)])
                    self.assert_comes_back([("home",), (name, number), ("end",)] * 6)

    def test_every_call_returns_a_new_list(self):
        for text in ["none", "H", "3D H 10R"]:
            first = read_commands(text)
            first.append(("end",))
            self.assertEqual(read_commands(text), first[:-1])

    def test_by_name(self):
        self.assertEqual(read_commands(text="H 2U"), [("home",), ("up", 2)])
        self.assertEqual(show_commands(commands=[("home",), ("up", 2)]), "H 2U")
        assert_raises(self, "Unreadable", "2H", read_commands, text="2H")


if __name__ == "__main__":
    unittest.main()
