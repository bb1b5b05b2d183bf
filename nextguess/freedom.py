"""Free lots: where a list says everything; its dimension, with a paper."""

from math import comb

from nextguess.basics import is_number, is_pair
from nextguess.checks import demand_lot
from nextguess.codes import codes_of, mask_of
from nextguess.rows import all_lots, is_lot, is_row, lots_of


def reads_all(codes, mask, many):
    """Tell whether codes take all values at the so many bits of the mask."""
    return len({code & mask for code in codes}) == 1 << many


def holds_all(codes, mask, many):
    """Tell whether, with like bits off the mask, codes take all values at its so many bits."""
    counts = {}
    for code in codes:
        rest = code | mask
        counts[rest] = counts.get(rest, 0) + 1
    return max(list(counts.values())) == 1 << many


def is_free(rules, lot):
    """Tell whether the rules read all rows at the lot."""
    demand_lot(lot, rules.size)
    return reads_all(codes_of(rules.rows), mask_of(lot, rules.size), len(lot))


def is_strongly_free(rules, lot):
    """Tell whether the rules read all rows at the lot with like values at all other points."""
    demand_lot(lot, rules.size)
    return holds_all(codes_of(rules.rows), mask_of(lot, rules.size), len(lot))


def free_lots(rules):
    """Return all free lots, those of fewer points ahead."""
    codes = codes_of(rules.rows)
    lots = all_lots(rules.size)
    return tuple([lot for lot in lots if reads_all(codes, mask_of(lot, rules.size), len(lot))])


def strong_lots(rules):
    """Return all strongly free lots, those of fewer points ahead."""
    codes = codes_of(rules.rows)
    lots = all_lots(rules.size)
    return tuple([lot for lot in lots if holds_all(codes, mask_of(lot, rules.size), len(lot))])


def dimension(rules):
    """Return the greatest number of points of a free lot."""
    return len(free_lots(rules)[-1])


def lots_up_to(size, d):
    """Return how many lots of points below size have at most d points."""
    return sum([comb(size, many) for many in range(min(size, d) + 1)])


def bar_at(rules, lot):
    """Return the least row that no rule reads at a lot that is not free."""
    return rules.seen_at(lot).others().rows[0]


def dimension_paper(rules):
    """Return a paper of the true claim: a free lot, and a bar at each lot of one point more."""
    lot = free_lots(rules)[-1]
    return (lot, tuple([bar_at(rules, wider) for wider in lots_of(rules.size, len(lot) + 1)]))


def is_dimension_claim(value):
    """Tell whether value, whatever it is, is a claim of a dimension."""
    return is_pair(value) and value[0] == "dimension" and is_number(value[1])


def is_bar(rules, lot, value):
    """Tell whether value, whatever it is, is a row that no rule reads at the lot."""
    return is_row(value, len(lot)) and not rules.seen_at(lot).has(value)


def are_bars(rules, many, value):
    """Tell whether value, whatever it is, has just one bar for each lot of so many points."""
    lots = lots_of(rules.size, many)
    if not isinstance(value, tuple) or len(value) != len(lots):
        return False
    return all([is_bar(rules, lot, bar) for lot, bar in zip(lots, value)])


def dimension_holds(rules, claim, paper):
    """Tell whether claim is a claim of a dimension, and paper a paper that proves it."""
    if not is_dimension_claim(claim) or not is_pair(paper):
        return False
    lot, bars = paper
    if not is_lot(lot, rules.size) or len(lot) != claim[1] or not is_free(rules, lot):
        return False
    return are_bars(rules, claim[1] + 1, bars)
