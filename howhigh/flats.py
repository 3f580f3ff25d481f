"""The flat rows of a loop, their parts, and those that double (section 4)."""

from howhigh.handing import givers, raising
from howhigh.statements import blocks_in, terms_of, whole_of
from howhigh.sums import product_of


def flat(program, loop):
    """The strictly ascending tuple of the flat rows of a loop that is a step of a way of the program."""
    return flat_rows(whole_of(loop[2], program.bodies))


def flat_rows(block):
    """The strictly ascending tuple of the flat rows of a loop with this block, which is written out."""
    found = {}
    for word, name, coefficient, product, _ in flat_terms(block, ()):
        known = found.get((word, name, product), 0)
        found[word, name, product] = known + coefficient if word == "add" else max(known, coefficient)
    return tuple(sorted([(word, name, found[word, name, product], product) for word, name, product in found]))


def flat_terms(block, loops):
    """What the terms of the add and lift rows of a block that is written out give, the block inside these loops.

    It is a list of tuples of what is in a flat row, and of the tuple of the loops around the row.
    """
    found = []
    for statement in block:
        if statement[0] in ("add", "lift"):
            found.extend(_terms_of_row(statement, loops))
        inside = (*loops, statement) if statement[0] == "loop" else loops
        for inner in blocks_in(statement):
            found.extend(flat_terms(inner, inside))
    return found


def _terms_of_row(row, loops):
    """What the terms of an add or lift row inside these loops give."""
    word, name, _ = row
    rounds = ()
    if word == "add":
        for loop in loops:
            rounds = product_of(rounds, ((loop[1], 1),))
    return [(word, name, coefficient, product_of(product, rounds), loops) for coefficient, product in terms_of(row)]


def parts(names, flat):
    """The list of the parts, each behind its givers, of those whose turn it is the least first."""
    behind = givers(names, flat)
    waiting = []
    for name in names:
        part = tuple([other for other in names
                      if other == name or other in behind[name] and name in behind[other]])
        if part not in waiting:
            waiting.append(part)
    found = []
    placed = []
    while waiting:
        ready = [part for part in waiting
                 if all([giver in placed or giver in part for giver in behind[part[0]]])]
        least = min(ready)
        found.append(least)
        placed.extend(least)
        waiting.remove(least)
    return found


def doubling(names, flat):
    """The list of the parts that double, in the order of parts."""
    return [part for part in parts(names, flat) if _doubles(part, flat)]


def _doubles(part, flat):
    """Whether a row of a name of the part has a name of the part in its product and does more than hand on."""
    for number in raising(part, flat):
        if any([name in part for name, _ in flat[number][3]]):
            return True
    return False


def calm_parts(names, flat):
    """The list of the parts that neither double nor are given from parts that double, in the order of parts."""
    behind = givers(names, flat)
    # The names of a part that doubles are givers of one another, and of themselves.
    wild = [name for part in doubling(names, flat) for name in part]
    return [part for part in parts(names, flat) if not any([giver in wild for giver in behind[part[0]]])]
