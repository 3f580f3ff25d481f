"""Loop papers: bounds that each round of a loop keeps (section 5)."""

from howhigh.flats import calm_parts
from howhigh.forms import is_loop_sum, is_one_of
from howhigh.handing import raising
from howhigh.kinds import ascending
from howhigh.packed import (is_within, packed, packed_plus, packed_product, packed_put, places_of, unpacked,
                            with_more_rounds)


def loop_paper(names, flat):
    """A loop paper of just the parts that neither double nor are given from parts that double."""
    places = places_of(names)
    known = {}
    paper = []
    for part in calm_parts(names, flat):
        terms = {1 << places[name]: 1 for name in part}
        for number in raising(part, flat):
            word, _, coefficient, product = flat[number]
            worth = packed_put(coefficient, product, known)
            if word == "add":
                # What is added in each round is there once more in each of the "#" rounds.
                worth = {code + (1 << places["#"]): factor for code, factor in worth.items()}
            terms = packed_plus(terms, worth)
        for name in part:
            known[name] = terms
        paper.append((part, unpacked(terms, places)))
    return tuple(paper)


def is_loop_paper(names, flat, thing):
    """Whether it is a loop paper for the names and flat rows."""
    if not _are_pairs(names, thing):
        return False
    places = places_of(names)
    known = {}
    for part, terms in thing:
        bound = packed(terms, places)
        if not all([packed_product(((name, 1),), places) in bound for name in part]):
            return False
        rows = [flat[number] for number in raising(part, flat)]
        if not _are_known(rows, known) or not _keep(rows, known, bound):
            return False
        for name in part:
            known[name] = bound
    return True


def _are_pairs(names, thing):
    """Whether it is a tuple of pairs of different names, no name in two of them, and a sum."""
    if not isinstance(thing, tuple) or len(thing) > len(names):
        return False
    free = list(names)
    for pair in thing:
        if not isinstance(pair, tuple) or len(pair) != 2 or not _is_part(free, pair[0]):
            return False
        if not is_loop_sum(names, pair[1]):
            return False
        free = [name for name in free if name not in pair[0]]
    return True


def _is_part(names, thing):
    """Whether it is an ascending tuple of at least one of the names."""
    if not isinstance(thing, tuple) or not 1 <= len(thing) <= len(names):
        return False
    return all([is_one_of(names, name) for name in thing]) and ascending(thing)


def _are_known(rows, known):
    """Whether the names in the products of the flat rows all are known."""
    return all([name in known for row in rows for name, _ in row[3]])


def _keep(rows, known, bound):
    """Whether one round with these flat rows keeps the packed bound, if those known are kept."""
    later = with_more_rounds(bound)
    added = {}
    for word, _, coefficient, product in rows:
        if word == "add":
            added = packed_plus(added, packed_put(coefficient, product, known))
    if not is_within(added, later):
        return False
    added = with_more_rounds(added)
    if not is_within(packed_plus(bound, added), later):
        return False
    for word, _, coefficient, product in rows:
        if word == "lift":
            lifted = packed_put(coefficient, product, known)
            if not is_within(lifted, later):
                return False
            if not is_within(packed_plus(with_more_rounds(lifted), added), later):
                return False
    return True
