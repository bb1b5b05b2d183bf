"""Lots that tell a rule: no other rule has its values there."""

from nextguess.checks import demand_lot, demand_rule
from nextguess.codes import code_of, codes_of, mask_of
from nextguess.rows import all_lots


def differences(rules, row):
    """Return for each other rule the code of the row that has yes where it is unlike this one."""
    mine = code_of(row)
    return [code ^ mine for code in codes_of(rules.rows) if code != mine]


def sees_all(unlike, mask):
    """Tell whether each of the rules is unlike somewhere at the bits of the mask."""
    return all([code & mask != 0 for code in unlike])


def tells(rules, row, lot):
    """Tell whether no other rule has this rule's values at the lot."""
    demand_rule(rules, row)
    demand_lot(lot, rules.size)
    return sees_all(differences(rules, row), mask_of(lot, rules.size))


def telling_lots(rules, row):
    """Return all lots of the fewest points that tell the rule, ascending."""
    demand_rule(rules, row)
    unlike = differences(rules, row)
    found = [lot for lot in all_lots(rules.size) if sees_all(unlike, mask_of(lot, rules.size))]
    return tuple([lot for lot in found if len(lot) == len(found[0])])


def hardest(rules):
    """Return the greatest number of points that some rule needs at the fewest to be told."""
    return max([len(telling_lots(rules, row)[0]) for row in rules.rows])
