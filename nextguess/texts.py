"""Lists of rules as texts, and texts read back."""

from nextguess.basics import MOST_POINTS
from nextguess.errors import InvalidText
from nextguess.lines import Lines
from nextguess.lists import Rules

NO_VALUES = "-"
RULE = "rule "


def points_line(size):
    """Return the line that tells how many points there are."""
    return f"points {size}"


def rule_line(row):
    """Return the line of a rule."""
    if len(row) == 0:
        return RULE + NO_VALUES
    return RULE + "".join([str(value) for value in row])


def write_rules(rules):
    """Return the text of a list: its points, then its rules in order."""
    return "\n".join([points_line(rules.size)] + [rule_line(row) for row in rules.rows])


def size_told(line):
    """Return how many points the line tells, None if it is no points line."""
    for size in range(MOST_POINTS + 1):
        if line == points_line(size):
            return size
    return None


def row_told(line, size):
    """Return the rule of so many values that the line tells, None if it tells none."""
    if not line.startswith(RULE):
        return None
    word = line[len(RULE):]
    if size == 0:
        return () if word == NO_VALUES else None
    if len(word) != size or not all([sign in "01" for sign in word]):
        return None
    return tuple([int(sign) for sign in word])


def rules_ahead(lines):
    """Take the lines of a list and return it; None if one is wrong or lacking, which is then ahead."""
    size = size_told(lines.ahead())
    if size is None:
        return None
    lines.take()
    rows = []
    row = row_told(lines.ahead(), size)
    while row is not None and (len(rows) == 0 or rows[-1] < row):
        rows.append(row)
        lines.take()
        row = row_told(lines.ahead(), size)
    return Rules(size, rows) if len(rows) > 0 else None


def read_rules(text):
    """Return the list whose text this is."""
    lines = Lines(text)
    rules = rules_ahead(lines)
    if rules is None or not lines.ended():
        raise InvalidText(text, lines.place())
    return rules
