"""Numbers, products, terms and sums read from their texts: each one, or None for what is no text of one (15.3)."""

from howhigh.kinds import ascending, is_name

LONGEST_NUMBER = 9


def number_in(text):
    """The number from 0 on with this text."""
    if not 1 <= len(text) <= LONGEST_NUMBER or not all(["0" <= letter <= "9" for letter in text]):
        return None
    if text[0] == "0" and text != "0":
        return None
    return int(text)


def product_in(text):
    """The product of names with this text."""
    return () if text == "1" else _product_of(text.split("*"))


def _product_of(factors):
    """The product, not (), of which these are the texts of the pairs."""
    pairs = [_pair_in(factor) for factor in factors]
    if None in pairs or not ascending([name for name, _ in pairs]):
        return None
    return tuple(pairs)


def _pair_in(text):
    """The pair of a name and its power with this text."""
    name, sign, digits = text.partition("^")
    if not is_name(name):
        return None
    if not sign:
        return (name, 1)
    power = number_in(digits)
    # A power of 1 is never written.
    return None if power is None or power < 2 else (name, power)


def term_in(text):
    """The term with this text."""
    first, *factors = text.split("*")
    coefficient = number_in(first)
    if coefficient is None:
        product = product_in(text)
        return None if product is None else (1, product)
    if not factors:
        return None if coefficient == 0 else (coefficient, ())
    product = _product_of(factors)
    # A coefficient of 1 is never written ahead of names.
    return None if product is None or coefficient < 2 else (coefficient, product)


def sum_in(text):
    """The sum with this text."""
    terms = [term_in(part) for part in text.split("+")]
    if None in terms or not ascending([product for _, product in terms]):
        return None
    return tuple(terms)
