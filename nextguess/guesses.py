"""Guesses without draws: at how many ties a rule misses, how few it can be, with a paper."""

from nextguess.basics import is_number, is_pair
from nextguess.errors import InvalidGuess
from nextguess.rows import is_row
from nextguess.shares import rounded_up
from nextguess.spreads import Spread, densest
from nextguess.webs import is_part, ties_of, ties_within


def is_guess(rules, value):
    """Tell whether value, whatever it is, is a guess of the list."""
    return is_row(value, len(ties_of(rules)))


def misses_of(rules, guess):
    """Return for each rule at how many ties it misses."""
    if not is_guess(rules, guess):
        raise InvalidGuess(guess)
    misses = [0] * len(rules)
    for (i, j, _), value in zip(ties_of(rules), guess):
        # The first rule of a tie has no at its point, the second yes.
        misses[i if value == 1 else j] += 1
    return tuple(misses)


def densest_part(rules):
    """Return the greatest share of ties within a part over its rules, and such a part."""
    ties = ties_of(rules)
    share, part, _ = densest(len(rules), ties, [1] * len(ties))
    return share, part


def least_worst(rules):
    """Return the least number that some guess keeps to: no rule misses more often."""
    # Misses are whole, and so shared out they come to the greatest density rounded up.
    return rounded_up(densest_part(rules)[0])


def best_guess(rules):
    """Return a guess with which no rule misses more than least_worst."""
    ties = ties_of(rules)
    spread = Spread(len(rules), ties, [1] * len(ties))
    spread.settle(least_worst(rules))
    return tuple(spread.first_amounts())


def misses_paper(rules):
    """Return a paper of the true claim: a best guess, and a part with too many ties for less."""
    share, part = densest_part(rules)
    return (best_guess(rules), () if rounded_up(share) == 0 else part)


def is_misses_claim(value):
    """Tell whether value, whatever it is, is a claim of misses."""
    return is_pair(value) and value[0] == "misses" and is_number(value[1])


def needs(rules, part, k):
    """Tell whether part, whatever it is, shows that some rule misses at k ties or more."""
    if k == 0:
        return isinstance(part, tuple) and len(part) == 0
    return is_part(rules, part) and ties_within(rules, part) > (k - 1) * len(part)


def misses_holds(rules, claim, paper):
    """Tell whether claim is a claim of misses, and paper a paper that proves it."""
    if not is_misses_claim(claim) or not is_pair(paper):
        return False
    guess, part = paper
    if not is_guess(rules, guess) or max(misses_of(rules, guess)) > claim[1]:
        return False
    return needs(rules, part, claim[1])
