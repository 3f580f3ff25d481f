"""One program beneath another: coverings, and where there are none (section 11)."""

from howhigh.claims import are_none, settled
from howhigh.errors import Above, BadNames, TooMany
from howhigh.forms import is_one_of, is_product
from howhigh.heights import heights
from howhigh.kinds import are_integers, ascending, is_made
from howhigh.names import check_alike
from howhigh.ways import ways

MOST_ASKED = 2
MOST_WAYS = 4


def covered(one, other, names):
    """Whether one is covered by other, for these names."""
    return outrun(one, other, names) is None


def covering(one, other, names):
    """A covering of one by other, for these names, or None if there is none."""
    rivals = _rivals_asked(one, other, names)
    if rivals.first_outrun() is not None:
        return None
    return {way: rivals.cases(way, [], settled(one.names, [])) for way in ways(one)}


def outrun(one, other, names):
    """A way of one, and a direction in which no way of other covers it, or None if there are none."""
    return _rivals_asked(one, other, names).first_outrun()


def is_covering(one, other, names, thing):
    """Whether it is a covering of one by other, for these names."""
    rivals = Rivals(one.names, names, _all_heights(one), _all_heights(other))
    found = ways(one)
    # A way with a flag in it equals one without.
    if not isinstance(thing, dict) or len(thing) != len(found) or not all([are_integers(way) for way in thing]):
        return False
    for way in found:
        if way not in thing or not rivals.are_cases(way, [], thing[way]):
            return False
    return True


def _rivals_asked(one, other, names):
    """The ways of both programs as rivals for the names asked, unless an error is due."""
    check_alike(one, other)
    if not isinstance(names, tuple) or not 1 <= len(names) <= MOST_ASKED:
        raise BadNames()
    if not all([is_one_of(one.names, name) for name in names]) or not ascending(names):
        raise BadNames()
    ones = _all_heights(one)
    for name in names:
        if any([found[name] is None for found in ones.values()]):
            raise Above(name)
    if len(ones) > MOST_WAYS or len(ways(other)) > MOST_WAYS:
        raise TooMany(MOST_WAYS)
    return Rivals(one.names, names, ones, _all_heights(other))


def _all_heights(program):
    """A dict from the ways of a program, ascending, to the dicts of their heights."""
    return {way: heights(program, way) for way in ways(program)}


class Rivals:
    """The ways of two programs with the same names, by their heights, compared for the names asked."""

    def __init__(self, names, asked, ones, others):
        self._names = names
        self._asked = asked
        self._ones = ones
        self._others = others

    def first_outrun(self):
        """A way of one, and a direction in which no way of other covers it, or None if there are none."""
        for way in self._ones:
            heading = self.free_heading(way, {}, [])
            if heading is not None:
                return (way, heading)
        return None

    def free_heading(self, way, chosen, claims):
        """A direction that fulfils the claims and in which the way of one is covered by none, None if there is none.

        chosen has the products of some names that are in the claims. In each direction one product of a name has as
        much weight as any other one of it, so it is enough to claim for one that it has more than those of other.
        """
        _, heading = settled(self._names, claims)
        if heading is None:
            return None
        further = self._covering(way, heading)
        if not further:
            return heading
        for name, product in self._keys(way, further[0]):
            if chosen.get(name, product) == product:
                behind = self._claims_behind(claims, further[0], (name, product))
                found = self.free_heading(way, {**chosen, name: product}, behind)
                if found is not None:
                    return found
        return None

    def cases(self, way, claims, settling):
        """Cases for a way of one, which other covers, and for these claims, settled so."""
        weights, heading = settling
        if weights is not None:
            return ("none", weights)
        rival, inner = self._narrowest(way, claims, heading)
        return ("way", rival, {key: self.cases(way, self._claims_behind(claims, rival, key), inner[key])
                               for key in inner})

    def _narrowest(self, way, claims, heading):
        """The way of other that leaves the fewest cases to close, of those that cover in this direction.

        With it there is a dict from the pairs of its cases to how the claims of these are settled.
        """
        best = None
        least = 0
        for rival in self._covering(way, heading):
            inner = {key: settled(self._names, self._claims_behind(claims, rival, key))
                     for key in self._keys(way, rival)}
            left = len([key for key in inner if inner[key][0] is None])
            if best is None or left < least:
                best, least = (rival, inner), left
            if left == 0:
                break
        return best

    def _covering(self, way, heading):
        """The list of the ways of other that cover the way of one in the direction."""
        return [rival for rival in self._others if self._covers(way, rival, heading)]

    def _covers(self, way, rival, heading):
        """Whether the way rival of other covers the way of one in the direction."""
        for name in self._asked:
            theirs = self._others[rival][name]
            if theirs is not None and _weight(theirs, heading) < _weight(self._ones[way][name], heading):
                return False
        return True

    def _keys(self, way, rival):
        """The list of the pairs of a name and a product for which the way rival of other must be left."""
        return [(name, product) for name in self._asked if self._others[rival][name] is not None
                for product in self._ones[way][name]]

    def _claims_behind(self, claims, rival, key):
        """The claims, and behind them that the product of the key has more weight than the height by rival."""
        name, product = key
        return [*claims, *[(product, theirs) for theirs in self._others[rival][name]]]

    def are_cases(self, way, claims, thing):
        """Whether they are cases for a way of one and these claims."""
        if is_made(thing, "none", 2):
            return are_none(self._names, claims, thing[1])
        if not is_made(thing, "way", 3) or not are_integers(thing[1]) or thing[1] not in self._others:
            return False
        _, rival, inner = thing
        keys = self._keys(way, rival)
        if not isinstance(inner, dict) or len(inner) != len(keys) or not all([self._is_key(key) for key in inner]):
            return False
        for key in keys:
            if key not in inner or not self.are_cases(way, self._claims_behind(claims, rival, key), inner[key]):
                return False
        return True

    def _is_key(self, thing):
        """Whether it is a pair of a name and a product."""
        if not isinstance(thing, tuple) or len(thing) != 2:
            return False
        return is_one_of(self._names, thing[0]) and is_product(self._names, thing[1])


def _weight(products, heading):
    """The weight of a height in a direction."""
    return max([sum([power * heading[name] for name, power in product]) for product in products])
