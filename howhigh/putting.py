"""Products in which rows of products stand in the place of names."""

from howhigh.hulls import lean
from howhigh.sums import product_of, product_raised


def one_of_each(product, heights):
    """All products in which each name stands for one of its products, in the dict heights; only the lean ones.

    It is a dict from these to the tuples of those that stand there, in the order of the names.
    """
    found = {(): ()}
    for name, power in product:
        grown = {}
        for worth, chosen in found.items():
            for further in heights[name]:
                grown.setdefault(product_of(worth, product_raised(further, power)), (*chosen, further))
        # What lies below others here does so, too, when the further names have their products.
        found = lean_only(grown)
    return found


def lean_only(found):
    """The dict of just those of the keys, products, that are lean together."""
    return {product: found[product] for product in lean(list(found))}
