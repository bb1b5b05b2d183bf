"""Lists of rules: what is known ahead, one of them holds."""

from nextguess.basics import MOST_POINTS, is_number, is_pair, is_value
from nextguess.checks import demand_lot, demand_row
from nextguess.codes import code_of, codes_of, rows_of
from nextguess.errors import InvalidRules, InvalidShown, Undefined
from nextguess.rows import all_rows, is_lot, is_row, read_at


def are_rows(rows, size):
    """Tell whether rows is a sequence of at least one row of so many values."""
    if not isinstance(rows, (list, tuple)) or len(rows) == 0:
        return False
    return all([is_row(row, size) for row in rows])


def demand_same_size(one, other):
    """Raise Undefined unless two lists have the same size."""
    if one.size != other.size:
        raise Undefined("size")


def is_answer(value):
    """Tell whether value is a pair of which the second member is a value."""
    return is_pair(value) and is_value(value[1])


def fits(row, shown):
    """Tell whether a rule has the values that are shown."""
    return all([row[point] == value for point, value in shown])


class Rules:
    """A list of rules of one size: its rows ascending, each once."""

    def __init__(self, size, rows):
        if not is_number(size) or not are_rows(rows, size):
            raise InvalidRules((size, rows))
        self.size = size
        self.rows = tuple(sorted(set(rows)))
        self._known = {row: True for row in self.rows}

    def __eq__(self, other):
        return isinstance(other, Rules) and self.size == other.size and self.rows == other.rows

    def __len__(self):
        return len(self.rows)

    def has(self, row):
        """Tell whether row, whatever it is, is a rule of the list."""
        # True and False would be found as 1 and 0, so the form is asked first.
        return is_row(row, self.size) and row in self._known

    def seen_at(self, lot):
        """Return the list of what the rules read at the points of the lot."""
        demand_lot(lot, self.size)
        return Rules(len(lot), [read_at(row, lot) for row in self.rows])

    def turned(self, row):
        """Return the list of the unlike of each rule and this row."""
        demand_row(row, self.size)
        turn = code_of(row)
        return Rules(self.size, rows_of([code ^ turn for code in codes_of(self.rows)], self.size))

    def both(self, other):
        """Return the list of all that the and of a rule of each makes."""
        demand_same_size(self, other)
        theirs = codes_of(other.rows)
        codes = sorted({mine & their for mine in codes_of(self.rows) for their in theirs})
        return Rules(self.size, rows_of(codes, self.size))

    def either(self, other):
        """Return the list of all that the or of a rule of each makes."""
        demand_same_size(self, other)
        theirs = codes_of(other.rows)
        codes = sorted({mine | their for mine in codes_of(self.rows) for their in theirs})
        return Rules(self.size, rows_of(codes, self.size))

    def unlike(self, other):
        """Return the list of all that the unlike of a rule of each makes."""
        demand_same_size(self, other)
        theirs = codes_of(other.rows)
        codes = sorted({mine ^ their for mine in codes_of(self.rows) for their in theirs})
        return Rules(self.size, rows_of(codes, self.size))

    def beside(self, other):
        """Return the list of all rows of a rule of this list and behind it one of the other."""
        size = self.size + other.size
        if size > MOST_POINTS:
            raise Undefined("size")
        return Rules(size, [mine + their for mine in self.rows for their in other.rows])

    def with_rule(self, row):
        """Return the list with this row as a rule."""
        demand_row(row, self.size)
        return Rules(self.size, self.rows + (row,))

    def without(self, row):
        """Return the list without this rule."""
        demand_row(row, self.size)
        if not self.has(row) or len(self.rows) == 1:
            raise Undefined("rules")
        return Rules(self.size, [rule for rule in self.rows if rule != row])

    def others(self):
        """Return the list of all rows that are none of the rules."""
        rows = [row for row in all_rows(self.size) if not self.has(row)]
        if len(rows) == 0:
            raise Undefined("rules")
        return Rules(self.size, rows)

    def is_closed(self):
        """Tell whether the and of each two rules is a rule."""
        codes = codes_of(self.rows)
        known = {code: True for code in codes}
        return all([(one & other) in known for one in codes for other in codes])

    def is_shown(self, value):
        """Tell whether value, whatever it is, is a tuple of shown answers."""
        if not isinstance(value, tuple) or not all([is_answer(pair) for pair in value]):
            return False
        return is_lot(tuple([pair[0] for pair in value]), self.size)

    def fitting(self, shown):
        """Return the list of the rules that fit the shown answers."""
        if not self.is_shown(shown):
            raise InvalidShown(shown)
        rows = [row for row in self.rows if fits(row, shown)]
        if len(rows) == 0:
            raise Undefined("rules")
        return Rules(self.size, rows)
