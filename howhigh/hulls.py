"""Products compared (section 7); the sign "#" counts as a name."""

from howhigh.corners import Corner, shortened


def below(product, products):
    """Whether the product lies below the row of products."""
    return weights(product, products) is not None


def weights(product, products):
    """Weights of the product against the row of products, or None if there are none."""
    if not product:
        return (1, *[0 for _ in products[1:]])
    if _missing(product, products) is not None:
        return None
    names = [name for name, _ in product]
    corner = _corner([_vector(other, names) for other in products])
    if corner.can_raise(_vector(product, names)):
        return None
    return tuple(shortened(corner.slopes(len(products))))


def direction(product, products):
    """A direction in which the product has a greater weight than each of the row, or None if there is none."""
    found = {name: 0 for name in _names_in([product, *products])}
    alone = _missing(product, products)
    if alone is not None:
        found[alone] = 1
        return found
    if not product:
        return None
    names = [name for name, _ in product]
    corner = _corner([_vector(other, names) for other in products])
    if not corner.can_raise(_vector(product, names)):
        return None
    for name, number in zip(names, shortened(corner.direction())):
        found[name] = number
    return found


def lean(products):
    """The strictly ascending tuple of those of the row that do not lie below all the others together."""
    different = {product: True for product in products}
    if len(different) == 1:
        return tuple(different)
    names = _names_in(different)
    vectors = {_vector(product, names): product for product in different}
    return tuple(sorted([vectors[vector] for vector in _outermost(sorted(vectors))]))


def _names_in(products):
    """The ascending list of the names in the products."""
    return sorted({name: True for product in products for name, _ in product})


def _vector(product, names):
    """The tuple of the powers of the names in the product."""
    powers = dict(product)
    return tuple([powers.get(name, 0) for name in names])


def _missing(product, products):
    """The first name of the product that is in none of the others, None if there is none."""
    known = {name: True for other in products for name, _ in other}
    for name, _ in product:
        if name not in known:
            return name
    return None


def _corner(vectors):
    """A corner of the directions in which none of the vectors has a weight above 1."""
    return Corner(vectors, [1 for _ in vectors])


def _outermost(vectors):
    """The list of those of different vectors that do not lie below the others together.

    A vector that does not lie below those found has a direction in which one not found yet weighs most.
    """
    found = {}
    places = len(vectors[0])
    for place in range(places):
        found[_heaviest(vectors, [int(k == place) for k in range(places)])] = True
    corner = _corner(list(found))
    for vector in vectors:
        while vector not in found and corner.can_raise(vector):
            found[_heaviest(vectors, corner.direction())] = True
            corner = _corner(list(found))
    return list(found)


def _heaviest(vectors, heading):
    """The vector of the greatest weight; of several the greatest one, which does not lie below the others."""
    return max([(sum([a * b for a, b in zip(vector, heading)]), vector) for vector in vectors])[1]
