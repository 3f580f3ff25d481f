"""Programs made of other ones, and what becomes of their heights (section 14)."""

from howhigh.errors import BadNames, Clash
from howhigh.hulls import lean
from howhigh.kinds import is_name
from howhigh.names import check_alike
from howhigh.programs import Program
from howhigh.putting import one_of_each
from howhigh.statements import CHOICE_WORDS, blocks_in, with_blocks
from howhigh.sums import gathered


def loosened(program):
    """The program with the statements of their blocks in the place of either and orders that stand inside loops."""
    bodies = program.bodies
    loose = {word: _loosened(bodies[word], False) for word in bodies}
    return Program(program.names, loose, _loosened(program.main, False))


def _loosened(block, inside):
    """The block, loosened; inside tells whether it stands inside a loop."""
    out = []
    for statement in block:
        deeper = inside or statement[0] == "loop"
        blocks = [_loosened(inner, deeper) for inner in blocks_in(statement)]
        if inside and statement[0] in CHOICE_WORDS:
            for inner in blocks:
                out.extend(inner)
        else:
            out.append(with_blocks(statement, blocks))
    return tuple(out)


def behind(one, other):
    """The program that does main of one, then main of other."""
    check_alike(one, other)
    known = one.bodies
    further = other.bodies
    for word in sorted(further):
        if word in known and known[word] != further[word]:
            raise Clash(word)
        known[word] = further[word]
    return Program(one.names, known, one.main + other.main)


def after(first, second):
    """The dict of the heights of what has the heights second, done behind what has the heights first."""
    return {name: _height_after(first, second[name]) for name in second}


def _height_after(first, products):
    """A height in which the heights first stand in the place of the names."""
    if products is None or any([first[name] is None for product in products for name, _ in product]):
        return None
    return lean([worth for product in products for worth in one_of_each(product, first)])


def renamed(program, names):
    """The program with other names, by a dict from just its names to different ones."""
    if not _are_new_names(program.names, names):
        raise BadNames()
    bodies = program.bodies
    fresh = {word: _renamed_block(bodies[word], names) for word in bodies}
    return Program(tuple(sorted(list(names.values()))), fresh, _renamed_block(program.main, names))


def _are_new_names(names, thing):
    """Whether it is a dict from just the names to different names."""
    if not isinstance(thing, dict) or len(thing) != len(names) or not all([name in thing for name in names]):
        return False
    if not all([is_name(worth) for worth in thing.values()]):
        return False
    return len({worth: True for worth in thing.values()}) == len(names)


def _renamed_block(block, names):
    """The block with other names."""
    return tuple([_renamed_statement(statement, names) for statement in block])


def _renamed_statement(statement, names):
    """The statement with other names."""
    if statement[0] == "call":
        return statement
    if statement[0] in CHOICE_WORDS:
        return with_blocks(statement, [_renamed_block(block, names) for block in statement[1]])
    word, name, content = statement
    if word == "loop":
        return (word, names[name], _renamed_block(content, names))
    if word == "lift":
        return (word, names[name], _renamed_term(content, names))
    return (word, names[name], gathered([_renamed_term(term, names) for term in content]))


def _renamed_term(term, names):
    """The term with other names."""
    coefficient, product = term
    return (coefficient, tuple(sorted([(names[name], power) for name, power in product])))
