"""Products and sums (1.1 and 1.2); the sign "#" counts as a name."""

from howhigh.errors import NoName


def raised(number, power):
    """The number to the power, by squaring."""
    out = 1
    while power > 0:
        if power & 1:
            out = out * number
        power = power >> 1
        if power > 0:
            number = number * number
    return out


def value(product, numbers):
    """The value of the product with these numbers."""
    worth = 1
    for name, power in product:
        if name not in numbers:
            raise NoName(name)
        worth = worth * raised(numbers[name], power)
    return worth


def total(terms, numbers):
    """The value of the sum with these numbers."""
    return sum([coefficient * value(product, numbers) for coefficient, product in terms])


def product_of(one, other):
    """The product of two products."""
    powers = dict(one)
    for name, power in other:
        powers[name] = powers.get(name, 0) + power
    return tuple(sorted(powers.items()))


def product_raised(product, power):
    """The product to the power."""
    return tuple([(name, many * power) for name, many in product])


def product_put(product, worths):
    """The product in which each name stands for its product in the dict worths."""
    powers = {}
    for name, power in product:
        for further, many in worths[name]:
            powers[further] = powers.get(further, 0) + many * power
    return tuple(sorted(powers.items()))


def gathered(terms):
    """The terms as a sum: those of the same product made one, the products ascending."""
    coefficients = {}
    for coefficient, product in terms:
        coefficients[product] = coefficients.get(product, 0) + coefficient
    return tuple([(coefficients[product], product) for product in sorted(coefficients)])


def plus(one, other):
    """The sum of two sums."""
    return gathered([*one, *other])


def times(one, other):
    """The product of two sums."""
    return gathered([(a * b, product_of(p, q)) for a, p in one for b, q in other])


def sum_raised(terms, power):
    """The sum to the power."""
    if len(terms) == 1:
        coefficient, product = terms[0]
        return ((raised(coefficient, power), product_raised(product, power)),)
    out = ((1, ()),)
    for _ in range(power):
        out = times(out, terms)
    return out


def put(terms, sums):
    """The sum terms with the sums of the dict in the place of its names."""
    found = []
    for coefficient, product in terms:
        worth = ((coefficient, ()),)
        for name, power in product:
            stands = sums[name] if name in sums else ((1, ((name, 1),)),)
            worth = times(worth, sum_raised(stands, power))
        found.extend(worth)
    return gathered(found)


def term_by_term(one, other):
    """Whether each term of one has its product in other with at least its coefficient."""
    coefficients = {product: coefficient for coefficient, product in other}
    return all([coefficients.get(product, 0) >= coefficient for coefficient, product in one])
