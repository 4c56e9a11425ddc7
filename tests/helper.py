"""What several test files share: a slow model, lists of commands, and ways to compare."""

import itertools
import random

from goalcolumn import errors

HUGE = 10 ** 30 - 1
SMALL_COMMANDS = [
    ("down", 1), ("up", 1), ("right", 1), ("right", 2),
    ("left", 1), ("left", 2), ("home",), ("end",),
]
# Each way in which a tuple can fail to be a command.
NO_COMMANDS = [
    (), ("forward", 1), ("Down", 1), ("d", 1), ("",), ("forward",),
    ("home", 1), ("end", 1), ("home", 0), ("end", 1, 2), ("home", None),
    ("down",), ("up",), ("right",), ("left",),
    ("down", None), ("left", "1"), ("right", True), ("up", False),
    ("down", 1, 1), ("up", 1, 2), ("right", 1, 1, 1), ("left", 3, 0),
    ("down", 0), ("up", 0), ("right", 0), ("left", 0),
    ("down", -1), ("up", -2), ("right", -HUGE), ("left", -1),
]


def lists_up_to(many, commands=None):
    """All lists of at most so many of the commands."""
    for size in range(many + 1):
        for chosen in itertools.product(commands or SMALL_COMMANDS, repeat=size):
            yield list(chosen)


def texts_up_to(lines, longest):
    """All texts of at most so many lines of at most this length."""
    for size in range(1, lines + 1):
        for lengths in itertools.product(range(longest + 1), repeat=size):
            yield list(lengths)


def starts_up_to(lines, longest, goals):
    """All small texts with each of their rows and each of the goals."""
    for text in texts_up_to(lines, longest):
        for row in range(len(text)):
            for goal in goals:
                yield text, (row, goal)


def random_lists(seed, many, size, numbers):
    """Lists of commands with numbers from a function of the chance, the same in each run of the tests."""
    chance = random.Random(seed)
    names = ["down", "up", "right", "left", "right", "left", "home", "end"]
    for _ in range(many):
        commands = []
        for _ in range(chance.randrange(size + 1)):
            name = chance.choice(names[:6] if chance.random() < 0.9 else names)
            commands.append((name,) if name in ("home", "end") else (name, numbers(chance, name)))
        yield chance, commands


def small_number(chance, name):
    """A number of one digit."""
    return chance.randrange(1, 4)


def digits_number(chance, name):
    """A number of up to thirty digits, but a small one of rows."""
    return chance.randrange(1, 4) if name in ("down", "up") else chance.randrange(1, 10 ** chance.randrange(1, 31))


def slow_run(text, cursor, commands):
    """The cursor after the commands, moved step by step, or ("impossible", index)."""
    row, goal = cursor
    for index, (name, *numbers) in enumerate(commands):
        if name == "home":
            goal = 0
        elif name == "end":
            goal = None
        elif name in ("right", "left"):
            at = text[row] if goal is None or goal > text[row] else goal
            for _ in range(numbers[0]):
                if name == "right" and at != text[row]:
                    at += 1
                elif name == "left" and at != 0:
                    at -= 1
            goal = at
        else:
            for _ in range(numbers[0]):
                row += 1 if name == "down" else -1
                if row < 0 or row >= len(text):
                    return ("impossible", index)
    return (row, goal)


def at_least(goal, least):
    """Whether a goal, perhaps None, is at least this integer."""
    return goal is None or goal >= least


def assert_raises(case, name, value, function, *arguments, **named):
    """Assert that a call raises exactly this class with exactly this value."""
    with case.assertRaises(errors.CursorError) as caught:
        function(*arguments, **named)
    case.assertEqual(type(caught.exception).__name__, name)
    case.assertIs(type(caught.exception), getattr(errors, name))
    case.assertEqual(repr(caught.exception.value), repr(value))


def assert_example(case, example):
    """Assert that an example, word for word as the document prints it, holds."""
    rows = example.strip().splitlines()
    names = {}
    for row in rows[:-2]:
        exec(row.removeprefix(">>> "), names)
    case.assertTrue(rows[-2].startswith(">>> "))
    try:
        told = repr(eval(rows[-2].removeprefix(">>> "), names))
    except errors.CursorError as error:
        told = f"raises {type(error).__name__}({error.value!r})"
    case.assertEqual(told, rows[-1])
