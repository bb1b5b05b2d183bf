"""Drawn guesses where the point that is left out is drawn by a source; the least chance, with a paper."""

from nextguess.basics import is_pair
from nextguess.drawn import demand_drawn, is_drawn, none_is_above, sums_of
from nextguess.shares import is_share, over, over_common, times, total_of
from nextguess.sources import demand_source
from nextguess.spreads import densest
from nextguess.webs import inside, is_part, ties_of


def chances_of(rules, source, drawn):
    """Return for each rule the chance of a wrong guess at the point that is left out."""
    demand_source(source, rules.size)
    demand_drawn(rules, drawn)
    return sums_of(rules, source, drawn)


def evenest_by(rules, source):
    """Return the least chance, a part that comes to it, and a drawn guess that keeps to it."""
    demand_source(source, rules.size)
    weights, common = over_common(source)
    ties = ties_of(rules)
    share, part, drawn = densest(len(rules), ties, [weights[point] for _, _, point in ties])
    return over(share, (common, 1)), part, drawn


def least_chance(rules, source):
    """Return the least share that some drawn guess keeps to: no rule's chance is above it."""
    return evenest_by(rules, source)[0]


def best_weighed(rules, source):
    """Return a drawn guess with which no rule's chance is above least_chance."""
    return evenest_by(rules, source)[2]


def chance_paper(rules, source):
    """Return a paper of the true claim: a best drawn guess, and a part with as much within."""
    _, part, drawn = evenest_by(rules, source)
    return (drawn, part)


def is_chance_claim(value):
    """Tell whether value, whatever it is, is a claim of a chance."""
    return is_pair(value) and value[0] == "chance" and is_share(value[1])


def chance_within(rules, source, part):
    """Return the sum of the source's chances of the points of the ties within a part."""
    ties = ties_of(rules)
    return total_of([source[ties[k][2]] for k in inside(ties, part)])


def chance_holds(rules, source, claim, paper):
    """Tell whether claim is a claim of a chance, and paper a paper that proves it."""
    demand_source(source, rules.size)
    if not is_chance_claim(claim) or not is_pair(paper):
        return False
    drawn, part = paper
    if not is_drawn(rules, drawn) or not none_is_above(sums_of(rules, source, drawn), claim[1]):
        return False
    return is_part(rules, part) and chance_within(rules, source, part) == times(claim[1], (len(part), 1))
