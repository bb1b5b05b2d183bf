"""Priors: chances by which the rule that holds is drawn, and the misses that they make expected."""

from nextguess.drawn import evenest, means_of
from nextguess.errors import InvalidSource
from nextguess.shares import are_one_together, is_below, lesser_of, times, total_of
from nextguess.webs import ties_of


def is_prior(rules, value):
    """Tell whether value, whatever it is, is a prior of the list."""
    return are_one_together(value, len(rules))


def demand_prior(rules, prior):
    """Raise InvalidSource unless prior is a prior of the list."""
    if not is_prior(rules, prior):
        raise InvalidSource(prior)


def expected_misses(rules, prior, drawn):
    """Return the sum, over the rules, of the prior's chance times the rule's mean."""
    demand_prior(rules, prior)
    return total_of([times(chance, mean) for chance, mean in zip(prior, means_of(rules, drawn))])


def least_expected(rules, prior):
    """Return the least expected misses over all drawn guesses."""
    demand_prior(rules, prior)
    # At each tie by itself, one of its two rules is missed as often as it holds.
    return total_of([lesser_of(prior[i], prior[j]) for i, j, _ in ties_of(rules)])


def guess_by_prior(rules, prior):
    """Return a guess with the least expected misses: at each tie the value of the likelier rule."""
    demand_prior(rules, prior)
    # The second rule of a tie has yes at its point.
    return tuple([int(is_below(prior[i], prior[j])) for i, j, _ in ties_of(rules)])


def hardest_prior(rules):
    """Return a prior of which the least expected misses are greatest: like chances in a densest part."""
    _, part, _ = evenest(rules)
    return tuple([(1, len(part)) if number in part else (0, 1) for number in range(len(rules))])
