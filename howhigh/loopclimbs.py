"""How the products of the loop heights are reached (6.2)."""

from howhigh.flats import calm_parts
from howhigh.handing import hands_on_plainly, numbers_of, raising
from howhigh.hulls import lean
from howhigh.putting import one_of_each
from howhigh.sums import product_of


def loop_climb(names, flat):
    """A dict from each name to a dict from the products of its loop height to loop trees with these products.

    The name has None if its part doubles or is given from one that does.
    """
    found = {name: None for name in names}
    for part in calm_parts(names, flat):
        own = {name: _own_trees(name, part, flat, found) for name in part}
        tops = lean([product for name in part for product in own[name]])
        for name in part:
            found[name] = {}
        for product in tops:
            for name, tree in _spread(product, own, flat).items():
                found[name][product] = tree
    return found


def _own_trees(name, part, flat, found):
    """A dict from products to loop trees for the name, but those by rows that only hand on in its part plainly."""
    trees = {((name, 1),): ("begin",)}
    for number in raising(part, flat):
        word, raised_name, _, product = flat[number]
        if raised_name != name:
            continue
        for worth, chosen in one_of_each(product, found).items():
            inner = tuple([found[other][top] for (other, _), top in zip(product, chosen)])
            if word == "add":
                worth = product_of(worth, (("#", 1),))
            trees.setdefault(worth, ("row", number, inner))
    return trees


def _spread(product, own, flat):
    """A dict from all names of a part to loop trees with this product, which one of the part has among its own."""
    found = {name: own[name][product] for name in own if product in own[name]}
    todo = list(found)
    while todo:
        giver = todo.pop(0)
        for name in own:
            for number in numbers_of(name, flat):
                if name not in found and hands_on_plainly(flat[number], (giver,)):
                    found[name] = ("row", number, (found[giver],))
                    todo.append(name)
    return found
