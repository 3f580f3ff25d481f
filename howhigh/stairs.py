"""Stairs: bounds for all numbers, place by place (section 9)."""

from howhigh.climbs import climb
from howhigh.flats import flat
from howhigh.forms import is_product
from howhigh.hulls import below, lean
from howhigh.kinds import is_integer
from howhigh.looppapers import is_loop_paper, loop_paper
from howhigh.putting import one_of_each
from howhigh.statements import terms_of
from howhigh.sums import total
from howhigh.ways import straight


def stairs(program, way):
    """Stairs of the way, their bounds with just the products of the heights at each place."""
    places = climb(program, way)
    papers = tuple([loop_paper(program.names, flat(program, step)) if step[0] == "loop" else None
                    for step in straight(program, way)])
    bounds = [{name: (1, tuple(places[0][name])) for name in program.names}]
    for place, step in enumerate(straight(program, way)):
        ahead = _with_counter(step, bounds[place])
        bounds.append({name: _bound_for(places[place + 1][name], _needed(step, papers[place], name), ahead)
                       for name in program.names})
    return (tuple(bounds), papers)


def _bound_for(products, terms, ahead):
    """The bound with these products that covers the bounds of the terms; None for no products."""
    if products is None:
        return None
    return (_least_factor(terms, ahead), tuple(products))


def _with_counter(step, bounds):
    """The bounds ahead of a step, that of the loop's name also as that of "#"."""
    return {**bounds, "#": bounds[step[1]]} if step[0] == "loop" else bounds


def _needed(step, paper, name):
    """The terms whose bounds the bound of the name behind a step must cover, None if it must be None."""
    if step[0] == "loop":
        for part, terms in paper:
            if name in part:
                return terms
        return None
    own = ((1, ((name, 1),)),)
    if step[1] != name:
        return own
    return terms_of(step) if step[0] == "set" else (*own, *terms_of(step))


def _least_factor(terms, ahead):
    """The sum of the factors of the bounds of the terms."""
    return total(terms, {name: ahead[name][0] for name in ahead if ahead[name] is not None})


def is_stairs(program, way, thing):
    """Whether they are stairs of the way."""
    steps = straight(program, way)
    if not isinstance(thing, tuple) or len(thing) != 2:
        return False
    bounds, papers = thing
    if not isinstance(bounds, tuple) or len(bounds) != len(steps) + 1:
        return False
    if not all([_are_bounds(program.names, found) for found in bounds]):
        return False
    if not isinstance(papers, tuple) or len(papers) != len(steps):
        return False
    if not all([_fits(program, step, paper) for step, paper in zip(steps, papers)]):
        return False
    starts = {name: (1, (((name, 1),),)) for name in program.names}
    if not all([bounds[0][name] is not None and _covers(bounds[0][name], ((1, ((name, 1),)),), starts)
                for name in program.names]):
        return False
    for place, step in enumerate(steps):
        if not _lead(step, papers[place], bounds[place], bounds[place + 1]):
            return False
    return True


def _are_bounds(names, thing):
    """Whether it is a dict from all names to bounds or None."""
    if not isinstance(thing, dict) or len(thing) != len(names) or not all([name in thing for name in names]):
        return False
    return all([thing[name] is None or _is_bound(names, thing[name]) for name in names])


def _is_bound(names, thing):
    """Whether it is a bound."""
    if not isinstance(thing, tuple) or len(thing) != 2 or not is_integer(thing[0]) or thing[0] < 1:
        return False
    if not isinstance(thing[1], tuple) or not thing[1]:
        return False
    return all([is_product(names, product) for product in thing[1]])


def _fits(program, step, paper):
    """Whether the paper is one for the step: a loop paper for a loop, None for a row."""
    if step[0] == "loop":
        return is_loop_paper(program.names, flat(program, step), paper)
    return paper is None


def _lead(step, paper, ahead, behind):
    """Whether the bounds behind the step, those that are not None, cover what they must."""
    known = _with_counter(step, ahead)
    for name in behind:
        if behind[name] is None:
            continue
        terms = _needed(step, paper, name)
        if terms is None or any([known[other] is None for _, product in terms for other, _ in product]):
            return False
        if not _covers(behind[name], terms, known):
            return False
    return True


def _covers(bound, terms, ahead):
    """Whether the bound covers the bounds of the terms."""
    factor, products = bound
    if factor < _least_factor(terms, ahead):
        return False
    heights = {name: ahead[name][1] for name in ahead if ahead[name] is not None}
    # Where the lean ones lie below, with products in the place of their names, the others do so, too.
    for product in lean([product for _, product in terms]):
        if not all([below(worth, products) for worth in one_of_each(product, heights)]):
            return False
    return True
