"""The flat rows of a loop, their parts, and those that double (section 4)."""

from howhigh.handing import givers, raising
from howhigh.statements import blocks_in, terms_of, whole_of
from howhigh.sums import product_of


def flat(program, loop):
    """The strictly ascending tuple of the flat rows of a loop that is a step of a way of the program."""
    found = {}
    _gather(whole_of(loop[2], program.bodies), (), found)
    return tuple(sorted([(word, name, found[word, name, product], product) for word, name, product in found]))


def _gather(block, rounds, found):
    """Put the coefficients of the flat rows of a block that is written out into the dict found.

    rounds is the product of the names of the loops around it.
    """
    for statement in block:
        if statement[0] in ("add", "lift"):
            _gather_row(statement, rounds, found)
        inside = product_of(rounds, ((statement[1], 1),)) if statement[0] == "loop" else rounds
        for inner in blocks_in(statement):
            _gather(inner, inside, found)


def _gather_row(row, rounds, found):
    """Put the coefficients of the flat rows of an add or lift row into the dict found."""
    word, name, _ = row
    for coefficient, product in terms_of(row):
        if word == "add":
            key = (word, name, product_of(product, rounds))
            found[key] = found.get(key, 0) + coefficient
        else:
            key = (word, name, product)
            found[key] = max(found.get(key, 0), coefficient)


def parts(names, flat):
    """The list of the parts, each behind its givers, of those whose turn it is the least first."""
    behind = givers(names, flat)
    waiting = []
    for name in names:
        part = tuple([other for other in names
                      if other == name or other in behind[name] and name in behind[other]])
        if part not in waiting:
            waiting.append(part)
    found = []
    placed = []
    while waiting:
        ready = [part for part in waiting
                 if all([giver in placed or giver in part for giver in behind[part[0]]])]
        least = min(ready)
        found.append(least)
        placed.extend(least)
        waiting.remove(least)
    return found


def doubling(names, flat):
    """The list of the parts that double, in the order of parts."""
    return [part for part in parts(names, flat) if _doubles(part, flat)]


def _doubles(part, flat):
    """Whether a row of a name of the part has a name of the part in its product and does more than hand on."""
    for number in raising(part, flat):
        if any([name in part for name, _ in flat[number][3]]):
            return True
    return False


def calm_parts(names, flat):
    """The list of the parts that neither double nor are given from parts that double, in the order of parts."""
    behind = givers(names, flat)
    # The names of a part that doubles are givers of one another, and of themselves.
    wild = [name for part in doubling(names, flat) for name in part]
    return [part for part in parts(names, flat) if not any([giver in wild for giver in behind[part[0]]])]
