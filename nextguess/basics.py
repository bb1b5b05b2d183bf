"""What counts as an integer, a number, a value and a point; powers."""

MOST_POINTS = 8


def is_an_integer(value):
    """Tell whether value is an int that is not a bool."""
    return isinstance(value, int) and not isinstance(value, bool)


def is_number(value):
    """Tell whether value is an integer from 0 on."""
    return is_an_integer(value) and value >= 0


def is_value(value):
    """Tell whether value is the integer 0 or 1."""
    return is_an_integer(value) and 0 <= value <= 1


def is_point(value, size):
    """Tell whether value is a number below size."""
    return is_number(value) and value < size


def is_pair(value):
    """Tell whether value is a tuple of two members."""
    return isinstance(value, tuple) and len(value) == 2


def power(base, many):
    """Return the product of so many times the base: 1 of none."""
    result = 1
    for _ in range(many):
        result = result * base
    return result
