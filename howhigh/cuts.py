"""Which rows must go so that a number stays low (13.1)."""

from itertools import combinations

from howhigh.errors import BadProducts, TooMany
from howhigh.forms import is_product
from howhigh.heights import height
from howhigh.hulls import below
from howhigh.names import check_name
from howhigh.programs import rows, without_rows
from howhigh.ways import ways

MOST_PRODUCTS = 6
MOST_POWER = 99
MOST_CUT = 8


def cuts(program, name, products):
    """The list of the least tuples of numbers of rows without which the top of the name lies below the products."""
    check_name(program, name)
    if not _are_products(program.names, products):
        raise BadProducts()
    numbers = [number for number, row in enumerate(rows(program)) if row[0] != "set"]
    if len(numbers) > MOST_CUT:
        raise TooMany(MOST_CUT)
    trial = Trial(program, name, products, numbers)
    found = []
    for many in range(len(numbers) + 1):
        for gone in combinations(numbers, many):
            if not any([is_within(least, gone) for least in found]) and trial.is_enough(gone):
                found.append(gone)
    return found


def _are_products(names, thing):
    """Whether they are products that can be asked for."""
    if not isinstance(thing, tuple) or not 1 <= len(thing) <= MOST_PRODUCTS:
        return False
    if not all([is_product(names, product) for product in thing]):
        return False
    return all([power <= MOST_POWER for product in thing for _, power in product])


def is_within(one, other):
    """Whether all numbers of one are in other."""
    return all([number in other for number in one])


class Trial:
    """Tries whether the name lies below the products without some of the rows that could go, of these numbers."""

    def __init__(self, program, name, products, numbers):
        self._program = program
        self._name = name
        self._products = products
        self._numbers = numbers
        self._too_few = []

    def is_enough(self, gone):
        """Whether it does without the rows of the numbers gone."""
        # Fewer rows never make a height greater: what is within too few rows is too few.
        if any([is_within(gone, few) for few in self._too_few]):
            return False
        if self._is_low(gone):
            return True
        self._too_few.append(self._most_with(gone))
        return False

    def _most_with(self, gone):
        """Too few rows, those of gone among them, to which none of the others can be added."""
        for number in self._numbers:
            if number not in gone:
                more = tuple(sorted([*gone, number]))
                if not self._is_low(more):
                    gone = more
        return gone

    def _is_low(self, gone):
        """The same, found out by all ways."""
        left = without_rows(self._program, gone)
        for way in ways(left):
            found = height(left, way, self._name)
            if found is None or not all([below(product, self._products) for product in found]):
                return False
        return True
