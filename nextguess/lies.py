"""Lists of what can be told where some answers are wrong."""

from nextguess.checks import demand_number
from nextguess.codes import codes_of, rows_of
from nextguess.lists import Rules


def near(rules, lies):
    """Return the list of all rows that differ from some rule at no more than so many points."""
    demand_number(lies)
    flips = [0] + [1 << point for point in range(rules.size)]
    codes = codes_of(rules.rows)
    # A row differs at no more points than it has, so further lies reach nothing new.
    for _ in range(min(lies, rules.size)):
        codes = sorted({code ^ flip for code in codes for flip in flips})
    return Rules(rules.size, rows_of(codes, rules.size))
