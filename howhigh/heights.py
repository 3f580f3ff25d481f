"""Heights and tops (8.3, 8.5 and 13.2)."""

from howhigh.climbs import climb
from howhigh.hulls import below, lean
from howhigh.names import check_name
from howhigh.ways import check_way, ways


def height(program, way, name):
    """The height of the name by the way: a lean tuple of products, None if it comes above every power."""
    check_way(program, way)
    check_name(program, name)
    return heights(program, way)[name]


def heights(program, way):
    """The dict of the heights of all names by the way."""
    last = climb(program, way)[-1]
    return {name: None if last[name] is None else tuple(last[name]) for name in last}


def top(program, name):
    """The lean tuple of the products of the heights of the name by all ways, None if one of them is None."""
    check_name(program, name)
    found = []
    for way in ways(program):
        reached = height(program, way, name)
        if reached is None:
            return None
        found.extend(reached)
    return lean(found)


def tops(program):
    """The list of the dicts of heights by the ways that lie under no other ones, equal ones once."""
    different = []
    for way in ways(program):
        found = heights(program, way)
        if found not in different:
            different.append(found)
    return [found for found in different
            if not any([other != found and _is_under(found, other) for other in different])]


def _is_under(one, other):
    """Whether a dict of heights lies under another one."""
    for name in one:
        if other[name] is None:
            continue
        if one[name] is None or not all([below(product, other[name]) for product in one[name]]):
            return False
    return True


def degree(program, way, name):
    """The greatest degree of the products of the height, None if it is None."""
    found = height(program, way, name)
    if found is None:
        return None
    return max([sum([power for _, power in product]) for product in found])
