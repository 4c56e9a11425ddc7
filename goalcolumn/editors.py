"""An editor: a text with a cursor that commands move, and that can take them back."""

from goalcolumn.checks import check_cursor, check_text
from goalcolumn.errors import NothingToUndo
from goalcolumn.running import places, shown_column


class Editor:
    """A text with a cursor."""

    def __init__(self, text, cursor):
        check_text(text)
        check_cursor(len(text), cursor)
        self._text = list(text)
        # The cursor at the start and after each command that was not taken back.
        self._cursors = [cursor]

    @classmethod
    def at_top(cls, text):
        """Return an editor with the cursor at the beginning of the text."""
        return cls(text, (0, 0))

    @property
    def text(self):
        """The lengths of the lines, as a new list."""
        return list(self._text)

    @property
    def cursor(self):
        """The present cursor."""
        return self._cursors[-1]

    @property
    def column(self):
        """The column at which the present cursor is shown."""
        row, goal = self._cursors[-1]
        return shown_column(self._text[row], goal)

    def press(self, *commands):
        """Run all of the commands, or none of them if this raises an error."""
        passed = list(places(self._text, self.cursor, commands))
        self._cursors.extend(passed[1:])

    def undo(self):
        """Take back the last command."""
        if len(self._cursors) == 1:
            raise NothingToUndo(0)
        self._cursors.pop()

    def trail(self):
        """Yield the cursor at the start and after each command that was not taken back."""
        yield from self._cursors

    def __eq__(self, other):
        return isinstance(other, Editor) and self._text == other._text and self.cursor == other.cursor
