"""The lines of a text, taken one by one."""


class Lines:
    """A text of which lines are taken from the front; text is all of it."""

    def __init__(self, text):
        self.text = text
        self._lines = text.split("\n")
        self._taken = 0
        self._at = 0

    def ended(self):
        """Tell whether all lines are taken."""
        return self._taken == len(self._lines)

    def ahead(self):
        """Return the next line; the empty line, which is always wrong, where none is left."""
        return "" if self.ended() else self._lines[self._taken]

    def take(self):
        """Take the next line."""
        self._at += len(self.ahead()) + 1
        self._taken += 1

    def place(self):
        """Return the place at which the next line begins, the text's length where none is left."""
        return min(self._at, len(self.text))
