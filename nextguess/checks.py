"""What several modules demand of their arguments, with the error it raises."""

from nextguess.basics import is_number, is_point
from nextguess.errors import InvalidLot, InvalidNumber, InvalidPoint, InvalidRow, Undefined
from nextguess.rows import is_lot, is_row


def demand_number(value):
    """Raise InvalidNumber unless value is a number."""
    if not is_number(value):
        raise InvalidNumber(value)


def demand_from_one(value):
    """Raise InvalidNumber unless value is an integer from 1 on."""
    if not is_number(value) or value == 0:
        raise InvalidNumber(value)


def demand_row(row, size):
    """Raise InvalidRow unless row is a row of so many values."""
    if not is_row(row, size):
        raise InvalidRow(row)


def demand_rule(rules, row):
    """Raise InvalidRow unless row is a rule of the list."""
    if not rules.has(row):
        raise InvalidRow(row)


def demand_lot(lot, size):
    """Raise InvalidLot unless lot is a lot of points below size."""
    if not is_lot(lot, size):
        raise InvalidLot(lot)


def demand_point(point, size):
    """Raise InvalidPoint unless point is a number below size."""
    if not is_point(point, size):
        raise InvalidPoint(point)


def demand_closed(rules):
    """Raise Undefined unless the and of each two rules is a rule."""
    if not rules.is_closed():
        raise Undefined("and")
