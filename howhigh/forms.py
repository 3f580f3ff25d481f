"""Whether objects of any kind have the form of products, sums, blocks and the parts of a program (2.1 and 2.2)."""

from howhigh.kinds import ascending, is_integer, is_name
from howhigh.measures import measure

MOST_NAMES = 4
MOST_WORDS = 4
MOST_TERMS = 3
MOST_COEFFICIENT = 9
MOST_DEGREE = 3
MOST_BLOCKS = 3
MOST_STATEMENTS = 40
MOST_ROWS = 12
MOST_DEEP = 8
MOST_LOOPS_DEEP = 2
MOST_WAYS = 24
MOST_PAPER_POWER = 99


def is_one_of(names, thing):
    """Whether it is a string among the names."""
    return isinstance(thing, str) and thing in names


def is_product(names, thing):
    """Whether it is a product of the names."""
    if not isinstance(thing, tuple) or len(thing) > len(names):
        return False
    for pair in thing:
        if not isinstance(pair, tuple) or len(pair) != 2 or not is_one_of(names, pair[0]):
            return False
        if not is_integer(pair[1]) or pair[1] < 1:
            return False
    return ascending([pair[0] for pair in thing])


def is_small_product(names, thing):
    """Whether it is a product of the names of a degree that a program may have."""
    return is_product(names, thing) and sum([power for _, power in thing]) <= MOST_DEGREE


def is_small_term(names, thing):
    """Whether it is a term that a program may have."""
    if not isinstance(thing, tuple) or len(thing) != 2:
        return False
    coefficient, product = thing
    return is_integer(coefficient) and 1 <= coefficient <= MOST_COEFFICIENT and is_small_product(names, product)


def is_small_sum(names, thing):
    """Whether it is a sum that a program may have."""
    if not isinstance(thing, tuple) or not 1 <= len(thing) <= MOST_TERMS:
        return False
    return all([is_small_term(names, term) for term in thing]) and ascending([term[1] for term in thing])


def is_loop_sum(names, thing):
    """Whether it is a sum of the names and of "#" that a loop paper may have."""
    if not isinstance(thing, tuple) or not thing:
        return False
    letters = ("#", *names)
    for term in thing:
        if not isinstance(term, tuple) or len(term) != 2 or not is_integer(term[0]) or term[0] < 1:
            return False
        if not is_product(letters, term[1]) or not all([power <= MOST_PAPER_POWER for _, power in term[1]]):
            return False
    return ascending([term[1] for term in thing])


class BlockForm:
    """Judges one block of a program with these names, in which these words may be called."""

    def __init__(self, names, words):
        self._names = names
        self._words = words
        # A wrong object may have the same small tuple in it times and again, far too often to be gone through.
        self._left = MOST_STATEMENTS

    def is_block(self, sets, thing):
        """Whether it is a block; sets tells whether set rows may stand in it outside loops."""
        if not isinstance(thing, tuple):
            return False
        for statement in thing:
            if not self._is_statement(sets, statement):
                return False
        return True

    def _is_statement(self, sets, thing):
        if not isinstance(thing, tuple) or not 2 <= len(thing) <= 3 or not isinstance(thing[0], str):
            return False
        if thing[0] == "call":
            return len(thing) == 2 and is_one_of(self._words, thing[1])
        self._left -= 1
        if self._left < 0:
            return False
        if len(thing) == 2:
            return thing[0] in ("either", "orders") and self._are_blocks(sets, thing[1])
        if not is_one_of(self._names, thing[1]):
            return False
        if thing[0] == "loop":
            return self.is_block(False, thing[2])
        return self._is_row(sets, thing)

    def _are_blocks(self, sets, thing):
        if not isinstance(thing, tuple) or not 2 <= len(thing) <= MOST_BLOCKS:
            return False
        for block in thing:
            if not self.is_block(sets, block):
                return False
        return True

    def _is_row(self, sets, thing):
        word, _, content = thing
        if word == "lift":
            return is_small_term(self._names, content)
        if word == "set":
            return sets and is_small_sum(self._names, content) and any([term[1] != () for term in content])
        return word == "add" and is_small_sum(self._names, content)


def are_names(thing):
    """Whether they are names of a program."""
    if not isinstance(thing, tuple) or not 1 <= len(thing) <= MOST_NAMES:
        return False
    return all([is_name(name) for name in thing]) and ascending(thing)


def _have_form(names, thing):
    """Whether it is a dict from words to blocks, in which greater words are called."""
    if not isinstance(thing, dict) or len(thing) > MOST_WORDS:
        return False
    if not all([is_name(word) for word in thing]):
        return False
    for word in thing:
        greater = [other for other in thing if other > word]
        if not BlockForm(names, greater).is_block(False, thing[word]):
            return False
    return True


def _measures_of(bodies):
    """The counts of the bodies, a dict, up to the first one that is too long."""
    known = {}
    # A body calls greater words only: the greatest one comes first.
    for word in sorted(bodies, reverse=True):
        known[word] = measure(bodies[word], known)
        if known[word].statements > MOST_STATEMENTS:
            break
    return known


def are_bodies(names, thing):
    """Whether they are bodies of a program with these names."""
    if not _have_form(names, thing):
        return False
    return all([found.statements <= MOST_STATEMENTS for found in _measures_of(thing).values()])


def is_main(names, bodies, thing):
    """Whether it is the main of a program with these names and bodies."""
    if not BlockForm(names, list(bodies)).is_block(True, thing):
        return False
    found = measure(thing, _measures_of(bodies))
    if found.statements > MOST_STATEMENTS or found.rows > MOST_ROWS:
        return False
    if found.deep > MOST_DEEP or found.loops_deep > MOST_LOOPS_DEEP:
        return False
    return found.ways <= MOST_WAYS and found.widest_loop <= MOST_WAYS
