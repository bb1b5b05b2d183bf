"""Moves: a rule is put to a list, a rule is dropped, or the list is turned."""

from nextguess.basics import is_pair
from nextguess.rows import is_row


def is_move(rules, value):
    """Tell whether value, whatever it is, is a move that can be done with the list."""
    if not is_pair(value):
        return False
    word, row = value
    if word == "put":
        return is_row(row, rules.size) and not rules.has(row)
    if word == "drop":
        return rules.has(row) and len(rules) > 1
    return word == "turn" and is_row(row, rules.size)


def moved(rules, move):
    """Return the list as it is behind the move."""
    word, row = move
    if word == "put":
        return rules.with_rule(row)
    return rules.without(row) if word == "drop" else rules.turned(row)
