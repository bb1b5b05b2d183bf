"""Rows as integers, so that many of them are joined and compared quickly.

The first value of a row is the highest bit: of rows of one size the codes
ascend as the rows do.
"""


def code_of(row):
    """Return the integer whose bits are the values of the row."""
    code = 0
    for value in row:
        code = 2 * code + value
    return code


def codes_of(rows):
    """Return the codes of rows, in their order."""
    return [code_of(row) for row in rows]


def row_of(code, size):
    """Return the row of so many values that has this code."""
    return tuple([(code >> (size - 1 - point)) & 1 for point in range(size)])


def rows_of(codes, size):
    """Return the rows of so many values that have these codes."""
    return [row_of(code, size) for code in codes]


def mask_of(lot, size):
    """Return the code of the row that has yes just at the points of the lot."""
    return sum([1 << (size - 1 - point) for point in lot])
