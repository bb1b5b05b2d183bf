"""Drawn guesses: a chance of yes at each tie; how low all means can be, with a paper."""

from nextguess.basics import is_pair
from nextguess.errors import InvalidGuess
from nextguess.shares import are_chances, is_below, is_share, less, plus, share_of, times
from nextguess.spreads import densest
from nextguess.webs import is_part, ties_of, ties_within


def is_drawn(rules, value):
    """Tell whether value, whatever it is, is a drawn guess of the list."""
    return are_chances(value, len(ties_of(rules)))


def demand_drawn(rules, drawn):
    """Raise InvalidGuess unless drawn is a drawn guess of the list."""
    if not is_drawn(rules, drawn):
        raise InvalidGuess(drawn)


def as_drawn(guess):
    """Return the drawn guess that tells just what a guess tells."""
    return tuple([(value, 1) for value in guess])


def sums_of(rules, weights, drawn):
    """Return for each rule the chances that the other value is guessed, each times its point's weight, added up."""
    sums = [(0, 1)] * len(rules)
    for (i, j, point), yes in zip(ties_of(rules), drawn):
        # The first rule of a tie has no at its point, the second yes.
        sums[i] = plus(sums[i], times(weights[point], yes))
        sums[j] = plus(sums[j], times(weights[point], less((1, 1), yes)))
    return tuple(sums)


def means_of(rules, drawn):
    """Return for each rule the sum of the chances that the other value is guessed."""
    demand_drawn(rules, drawn)
    return sums_of(rules, [(1, 1)] * rules.size, drawn)


def evenest(rules):
    """Return the least mean, a part that comes to it, and a drawn guess that keeps to it."""
    # The first rule of a tie has no at its point: what it carries is the chance of yes.
    ties = ties_of(rules)
    return densest(len(rules), ties, [1] * len(ties))


def least_mean(rules):
    """Return the least share that some drawn guess keeps to: no rule's mean is above it."""
    return evenest(rules)[0]


def best_drawn(rules):
    """Return a drawn guess with which no rule's mean is above least_mean."""
    return evenest(rules)[2]


def mean_paper(rules):
    """Return a paper of the true claim: a best drawn guess, and a part with as many ties."""
    _, part, drawn = evenest(rules)
    return (drawn, part)


def is_mean_claim(value):
    """Tell whether value, whatever it is, is a claim of a mean."""
    return is_pair(value) and value[0] == "mean" and is_share(value[1])


def none_is_above(shares, limit):
    """Tell whether none of the shares is above the limit."""
    return not any([is_below(limit, share) for share in shares])


def mean_holds(rules, claim, paper):
    """Tell whether claim is a claim of a mean, and paper a paper that proves it."""
    if not is_mean_claim(claim) or not is_pair(paper):
        return False
    drawn, part = paper
    if not is_drawn(rules, drawn) or not none_is_above(means_of(rules, drawn), claim[1]):
        return False
    return is_part(rules, part) and share_of(ties_within(rules, part), len(part)) == claim[1]
