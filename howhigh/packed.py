"""Sums packed for quick work: dicts from products, each made one integer, to their coefficients.

A product is packed as the sum of its powers, each moved by the place of its name; "#" has the place 0.
"""

from math import comb

# Powers stay far below 2 to this, so that none reaches into the place of the next name.
WIDTH = 64


def places_of(names):
    """A dict from "#" and the names to how far their powers are moved."""
    return {name: k * WIDTH for k, name in enumerate(["#", *names])}


def packed_product(product, places):
    """The product, packed."""
    return sum([power << places[name] for name, power in product])


def packed(terms, places):
    """The sum, packed."""
    return {packed_product(product, places): coefficient for coefficient, product in terms}


def unpacked(terms, places):
    """The sum of which this is the packed one."""
    only = (1 << WIDTH) - 1
    found = {}
    for code, coefficient in terms.items():
        powers = [(name, code >> place & only) for name, place in places.items()]
        found[tuple(sorted([pair for pair in powers if pair[1] > 0]))] = coefficient
    return tuple([(found[product], product) for product in sorted(found)])


def packed_plus(one, other):
    """The sum of two packed sums."""
    found = {code: coefficient for code, coefficient in one.items()}
    for code, coefficient in other.items():
        found[code] = found.get(code, 0) + coefficient
    return found


def packed_times(one, other):
    """The product of two packed sums."""
    found = {}
    for code, coefficient in one.items():
        for further, factor in other.items():
            found[code + further] = found.get(code + further, 0) + coefficient * factor
    return found


def packed_put(coefficient, product, sums):
    """A term in which each name stands for its packed sum in the dict sums, packed."""
    worth = {0: coefficient}
    for name, power in product:
        for _ in range(power):
            worth = packed_times(worth, sums[name])
    return worth


def with_more_rounds(terms):
    """The packed sum in which "#" + 1 stands in the place of "#"."""
    only = (1 << WIDTH) - 1
    found = {}
    for code, coefficient in terms.items():
        power = code & only
        for less in range(power + 1):
            found[code - less] = found.get(code - less, 0) + coefficient * comb(power, less)
    return found


def is_within(one, other):
    """Whether each term of a packed sum has its product in another one with at least its coefficient."""
    return all([other.get(code, 0) >= coefficient for code, coefficient in one.items()])
