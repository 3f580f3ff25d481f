"""Loop trees and loop heights (section 6)."""

from howhigh.kinds import is_made, is_number_of
from howhigh.loopclimbs import loop_climb
from howhigh.sums import product_of, product_put


def is_loop_tree(names, flat, name, thing):
    """Whether it is a loop tree for the name and the flat rows."""
    if is_made(thing, "begin", 1):
        return True
    if not is_made(thing, "row", 3) or not is_number_of(flat, thing[1]):
        return False
    _, raised, _, product = flat[thing[1]]
    trees = thing[2]
    if raised != name or not isinstance(trees, tuple) or len(trees) != len(product):
        return False
    for (other, _), tree in zip(product, trees):
        if not is_loop_tree(names, flat, other, tree):
            return False
    return True


def loop_product(names, flat, name, tree):
    """The product of a loop tree for the name."""
    if tree[0] == "begin":
        return ((name, 1),)
    _, number, trees = tree
    word, _, _, product = flat[number]
    inner = {other: loop_product(names, flat, other, further) for (other, _), further in zip(product, trees)}
    worth = product_put(product, inner)
    return product_of(worth, (("#", 1),)) if word == "add" else worth


def loop_heights(names, flat):
    """A dict from each name to its loop height, or None."""
    climbed = loop_climb(names, flat)
    return {name: None if climbed[name] is None else tuple(climbed[name]) for name in names}
