"""Claims, pairs (p, q) of products: p has more weight than q. Whether a direction fulfils all of some (11.3)."""

from howhigh.corners import Corner, shortened
from howhigh.kinds import are_integers


def settled(names, claims):
    """A pair: weights that show that no direction of the names fulfils all claims, and one that does; one is None.

    In the direction there are integers from 1 on.
    """
    if not claims:
        return (None, {name: 1 for name in names})
    gaps = _gaps(names, claims)
    ones = [1 for _ in claims]
    # Weights are sought that are 1 all together and give no name more in the p than in the q; if there are none, 0
    # all together is the most, and what holds them back, name by name, is a direction.
    corner = Corner([*gaps, ones], [*[0 for _ in names], 1])
    corner.can_raise(ones)
    found = corner.direction()
    if any([number > 0 for number in found]):
        return (tuple(shortened(found)), None)
    slopes = corner.slopes(len(names) + 1)[:len(names)]
    return (None, _lifted(names, shortened(slopes), gaps))


def _gaps(names, claims):
    """For each name a list: how much greater its power in the p of each claim is than in the q."""
    powers = [(dict(p), dict(q)) for p, q in claims]
    return [[p.get(name, 0) - q.get(name, 0) for p, q in powers] for name in names]


def _lifted(names, heading, gaps):
    """A direction with integers from 1 on that fulfils the claims that heading, with integers from 0 on, fulfils."""
    if 0 not in heading:
        return dict(zip(names, heading))
    # Each claim is fulfilled by at least 1, and so by more than the 1 added for each name may take away.
    factor = 1 + max([abs(sum(gap)) for gap in zip(*gaps)])
    return {name: number * factor + 1 for name, number in zip(names, heading)}


def are_none(names, claims, thing):
    """Whether they are weights, one for each claim, that show that no direction fulfils all claims."""
    if not are_integers(thing) or len(thing) != len(claims):
        return False
    if not all([number >= 0 for number in thing]) or not any([number > 0 for number in thing]):
        return False
    return all([sum([number * gap for number, gap in zip(thing, row)]) <= 0 for row in _gaps(names, claims)])
