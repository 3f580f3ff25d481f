"""How the products of the heights are reached, place by place (8.1 to 8.3).

At each place, each name that is not above every power there has a dict from the products of its height there to
how they come: ("start",), ("keep",), ("row", number, chosen) with the number of the term and the products chosen for
its names, in order, or ("loop", tree, product, chosen) with a loop tree and its product, and the products chosen for
its names and for "#".
"""

from howhigh.errors import NoBranch
from howhigh.flats import flat_rows
from howhigh.forms import is_product
from howhigh.loopclimbs import loop_climb
from howhigh.names import check_name
from howhigh.putting import lean_only, one_of_each
from howhigh.statements import terms_of
from howhigh.ways import check_way, steps_of


def climb(program, way):
    """The list of the dicts for each place of the way, from each name to None, if it is above, or to its dict."""
    check_way(program, way)
    return climbed(program.names, steps_of(program.whole, {}, way))


def climb_to(program, way, name, product):
    """The same list, where the height of the name must have the product."""
    check_way(program, way)
    check_name(program, name)
    places = climb(program, way)
    last = places[-1][name]
    if last is None or not is_product(program.names, product) or product not in last:
        raise NoBranch()
    return places


def climbed(names, steps):
    """The list of the dicts for each place of these steps of a block that is written out."""
    places = [{name: {((name, 1),): ("start",)} for name in names}]
    for step in steps:
        if step[0] == "loop":
            places.append(_behind_loop(step[1], flat_rows(step[2]), places[-1]))
        else:
            places.append(_behind_row(step, places[-1]))
    return places


def _kept(found):
    """The dict of a name behind a step by which nothing happens to it."""
    return None if found is None else {product: ("keep",) for product in found}


def _comes_above(product, ahead):
    """Whether a name of the product is above."""
    return any([ahead[name] is None for name, _ in product])


def _behind_row(row, ahead):
    """The dicts of all names behind a row."""
    behind = {name: _kept(ahead[name]) for name in ahead}
    behind[row[1]] = _risen(row, {} if row[0] == "set" else behind[row[1]], ahead)
    return behind


def _risen(row, found, ahead):
    """The dict found of the name of a row, None if it is above, with what the terms of the row give."""
    if found is None:
        return None
    for number, (_, product) in enumerate(terms_of(row)):
        if _comes_above(product, ahead):
            return None
        for worth, chosen in one_of_each(product, ahead).items():
            found.setdefault(worth, ("row", number, chosen))
    return lean_only(found)


def _behind_loop(name, rows, ahead):
    """The dicts of all names behind a loop of this name and with these flat rows."""
    trees = loop_climb(list(ahead), rows)
    worths = {**ahead, "#": ahead[name]}
    return {other: _looped(other, trees[other], worths) for other in ahead}


def _looped(name, trees, worths):
    """The dict of a name behind a loop, by its loop trees and the dicts of the names and of "#" ahead."""
    if trees is None or any([_comes_above(product, worths) for product in trees]):
        return None
    found = {}
    for product, tree in trees.items():
        if product == ((name, 1),):
            for kept in worths[name]:
                found.setdefault(kept, ("keep",))
            continue
        for worth, chosen in one_of_each(product, worths).items():
            found.setdefault(worth, ("loop", tree, product, chosen))
    return lean_only(found)
