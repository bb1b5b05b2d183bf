"""Rows of values, and lots of points."""

from itertools import combinations

from nextguess.basics import is_point, is_value
from nextguess.codes import row_of


def is_row(value, size):
    """Tell whether value, whatever it is, is a row of so many values."""
    return isinstance(value, tuple) and len(value) == size and all([is_value(member) for member in value])


def all_rows(size):
    """Return all rows of so many values, ascending."""
    return tuple([row_of(code, size) for code in range(1 << size)])


def is_lot(value, size):
    """Tell whether value, whatever it is, is a lot of points below size."""
    if not isinstance(value, tuple) or not all([is_point(member, size) for member in value]):
        return False
    return all([value[k - 1] < value[k] for k in range(1, len(value))])


def lots_of(size, many):
    """Return all lots of so many points below size, ascending."""
    return list(combinations(range(size), many))


def lots_to(size, most):
    """Return all lots of at most so many points below size, those of fewer points ahead."""
    return tuple([lot for many in range(min(size, most) + 1) for lot in lots_of(size, many)])


def all_lots(size):
    """Return all lots of points below size, those of fewer points ahead."""
    return lots_to(size, size)


def read_at(row, lot):
    """Return the row of the values at the points of the lot."""
    return tuple([row[point] for point in lot])


def with_value(row, point, value):
    """Return the row that has this value at the point, and at all others what the row has."""
    return row[:point] + (value,) + row[point + 1:]
