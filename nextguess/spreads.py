"""Weights of ties, shared out between their rules so that no rule carries more than it must."""

from nextguess.shares import share_of
from nextguess.webs import inside


class Spread:
    """The weight of each tie in two amounts, one carried by each of its rules.

    Arc 2 k leads from the first rule of tie k to the second one, and its room is what the
    first carries of the weight; arc 2 k + 1 leads back, with what the second carries.
    """

    def __init__(self, many, ties, weights):
        self.loads = [0] * many
        self.arcs = [[] for _ in range(many)]
        self.ends = []
        self.room = []
        for k, (i, j, _) in enumerate(ties):
            self.arcs[i].append(2 * k)
            self.arcs[j].append(2 * k + 1)
            self.ends.extend([j, i])
            # All is on the first rule until it is shifted.
            self.room.extend([weights[k], 0])
            self.loads[i] += weights[k]

    def settle(self, limit):
        """Shift amounts until no rule carries more than limit, and return ().

        If this cannot be, return the rules that cannot be relieved: what ties among
        themselves weigh is more than limit for each of them.
        """
        came, rule = self.search(limit)
        while rule is not None:
            self.shift(came, rule, limit)
            came, rule = self.search(limit)
        return tuple(sorted(came))

    def search(self, limit):
        """Return how rules are reached from those above limit, and the first one found below it, or None."""
        came = {rule: None for rule, load in enumerate(self.loads) if load > limit}
        level = list(came)
        while len(level) > 0:
            reached = []
            for rule in level:
                for arc in self.arcs[rule]:
                    end = self.ends[arc]
                    if self.room[arc] > 0 and end not in came:
                        came[end] = arc
                        reached.append(end)
                        if self.loads[end] < limit:
                            return came, end
            level = reached
        return came, None

    def shift(self, came, rule, limit):
        """Shift as much as can be along the way that leads to the rule."""
        way = []
        start = rule
        while came[start] is not None:
            way.append(came[start])
            start = self.ends[came[start] ^ 1]
        amount = min([self.loads[start] - limit, limit - self.loads[rule]] + [self.room[arc] for arc in way])
        for arc in way:
            self.room[arc] -= amount
            self.room[arc ^ 1] += amount
        self.loads[start] -= amount
        self.loads[rule] += amount

    def first_amounts(self):
        """Return for each tie what its first rule carries."""
        return self.room[::2]


def density(ties, weights, part):
    """Return the share of the weights within a part over how many rules it has."""
    return share_of(sum([weights[k] for k in inside(ties, part)]), len(part))


def portion(amount, weight):
    """Return which share of a weight an amount is; of no weight it is none."""
    return (0, 1) if weight == 0 else share_of(amount, weight)


def densest(many, ties, weights):
    """Return the greatest density of a part, such a part, and how each weight is best shared out.

    The last is for each tie the share that its first rule carries: so no rule carries more
    than the density. The weights are integers from 0 on.
    """
    part = tuple(range(many))
    denser = part
    while len(denser) > 0:
        part = denser
        limit, scale = density(ties, weights, part)
        # All is taken as many times as makes the limit whole, so the amounts stay integers.
        scaled = [scale * weight for weight in weights]
        spread = Spread(many, ties, scaled)
        denser = spread.settle(limit)
    portions = [portion(amount, weight) for amount, weight in zip(spread.first_amounts(), scaled)]
    return (limit, scale), part, tuple(portions)
