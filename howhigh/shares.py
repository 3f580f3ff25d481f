"""Shares: how much of a product of a height the number surely has at the end of full runs (section 10)."""

from howhigh.climbs import climb_to
from howhigh.cycles import Cycles
from howhigh.statements import terms_of
from howhigh.sums import raised
from howhigh.ways import steps_of


def share(program, way, name, product):
    """A pair (share, least): share times the number is at least the value, in full runs from starts from least on."""
    places = climb_to(program, way, name, product)
    return Sharer(steps_of(program.whole, {}, way), places).share_at(len(places) - 1, name, product)


class Sharer:
    """Tells shares of the products of the heights at the places of a way, by how these come there.

    No number of a run is ever less than its least start, so what is asked of some numbers is asked of all starts.
    """

    def __init__(self, steps, places):
        self._steps = steps
        self._places = places
        self._known = {}

    def share_at(self, place, name, product):
        """The pair of a share and of the least start for this product of the height of the name at the place."""
        key = (place, name, product)
        if key not in self._known:
            self._known[key] = self._worked_out(place, name, product)
        return self._known[key]

    def _worked_out(self, place, name, product):
        origin = self._places[place][name][product]
        if origin[0] == "start":
            return (1, 1)
        if origin[0] == "keep":
            return self.share_at(place - 1, name, product)
        step = self._steps[place - 1]
        if origin[0] == "row":
            _, number, chosen = origin
            return self._share_of_all(place - 1, terms_of(step)[number][1], chosen)
        _, tree, stands, chosen = origin
        own, least = Cycles(step[2]).share_of(tree)
        behind = tuple([(step[1] if name == "#" else name, power) for name, power in stands])
        inner, needed = self._share_of_all(place - 1, behind, chosen)
        return (own * inner, max(least, needed))

    def _share_of_all(self, place, pairs, chosen):
        """The same for names with powers at the place, together, a product of the height chosen for each."""
        out, least = 1, 1
        for (name, power), product in zip(pairs, chosen):
            part, needed = self.share_at(place, name, product)
            out = out * raised(part, power)
            least = max(least, needed)
        return (out, least)
